import PyProof.Rows.All
import Wide.All
import OpenK.AllK
import Wide.FinOn
import PyProof.EqAt
import PyProof.EqKinds
import PyProof.TupleCall
import KE.KExcInit
import KE.OsGo
import HandS.ForMost
import HandS.ForExc
import HandS.Wide
import HandS.IsInst
import HandS.StrMore
import PyProof.ReprReads
import PyProof.ReprRoads
import PyProof.CallFns
import PyProof.ListStr
import PyProof.StrLawsRepr
import HandS.TupMul
import HandS.TupAny
import HandS.More
import KE.KExcIs
import HandS.ExcValue
import HandS.ExcIs
import HandS.ListItems
import HandS.Small
import HandS.DictComp
import HandS.FStr
import HandS.WordsDict
import HandS.Property
import HandS.Iter
import HandS.Walk
import HandS.SetFor
import HandS.Style
import PySem.Challenge.RW_munchbehind_k04_whole_subtrees_and_level
set_option Elab.async false
set_option linter.all false
set_option maxRecDepth 100000
set_option maxHeartbeats 2000000
/-! ### defs that are called where nothing is being shown (repr): what HandS says of a def, with that one fact more -/
namespace Gd
open PySem PySem.Spec PyProof.Rows L2
/-- a def's promise, kept wherever no repr is under way -/
structure FnG (P : Program) (w : World) (K : PySem.W.Frag) (mg : Str → Option Value) (base : Heap) (CX : CXT) (k : Nat) (f : Addr) (fd : FuncData) (ps : List Str) (sp : Sp) : Prop where
  len : ∀ vs H Q E, sp vs H Q E → vs.length = ps.length
  run : ∀ (A : Around) (outer : List Env) (s : Shared) (H : Hp) (args : Args) (us : List Value) (vs : List V) (Q : VK) (E : XK), Room k A → A.guards = some [] → Env0 P w K mg base A outer s H → BindsTo s fd args (ps.zip us) → Vals vs us → sp vs H Q E →
    codeAny (model P w) A (.call (.ref f) args) (CR CX outer P w H s Q E) s
section
variable {P : Program} {w : World} {K : PySem.W.Frag} {mg : Str → Option Value} {base : Heap} {CX : CXT} {k : Nat} {f : Addr} {fd : FuncData} {ps : List Str} {sp : Sp}
/-- out of its body -/
theorem FnG.of_body {qual : Str} {st : Stmt} {x : Str} {N : List Str} (F : Fun K x qual st f fd) (S : FnScope N ps (defScope st)) (len : ∀ vs H Q E, sp vs H Q E → vs.length = ps.length)
    (hbody : ∀ (cdv : Value) (A : Around) (outer : List Env) (s : Shared) (H : Hp) (vs : List V) (Q : VK) (E : XK), Room k (A.deeper (envOfC qual (defScope st) s.heap.objs.size f cdv)) →
      (A.deeper (envOfC qual (defScope st) s.heap.objs.size f cdv)).guards = some [] → sp vs H Q E →
      ∃ t, PSs (cxOf CX P w K mg base N qual (defScope st) f cdv A outer s H E) (defBody st) t ∧ t { nx := fun _ H' => Q .non H', rt := Q } (start N vs) H) : FnG P w K mg base CX (k + 1) f fd ps sp := by
  obtain ⟨oc, od, kV, doc, pm, an, cdv, ct, osl, rfl, lk, hcd⟩ := F.ex
  constructor
  · exact len
  intro A outer s H args us vs Q E room hg env bind rel want
  have size := len _ _ _ _ want
  have keep : ∀ b o, base.get? b = some o → s.heap.get? b = some o := fun b o e => (env.bs b o e).1
  have KX := env.mod.kin.keeps keep
  have lim := env.mod.nolimit.keeps keep
  have slots : ∀ y ∈ ps.zip us, (defScope st).names.lookup y.1 = some .local ∨ ((defScope st).names.lookup y.1 = some .cell ∧ ((cellsFrom (s.heap.objs.size + 1) (defScope st).names []).lookup y.1).isSome = true) := by
    rintro ⟨n, v⟩ hy
    exact (S.par n (List.of_mem_zip hy).1).imp id fun q => ⟨q, PySem.W.cellsFrom_some _ _ _ (.inl q)⟩
  refine codeAny_call_function room.depth (KX _ _ lk) rfl S.co S.gen rfl (PySem.W.codeRec_of KX hcd) (bind _ _ _ _ (wpAny_newFunctionEnv_cells S.kind slots fun env1 he s1 x => ?_))
  subst he
  refine ⟨lim.keeps x.toInCall.keep, codeAny_func ?_⟩
  have guard : (A.deeper (envOfC qual (defScope st) s.heap.objs.size f cdv)).guards = some [] := hg
  obtain ⟨t, ht, hq⟩ := hbody cdv A outer s H vs Q E (room.deeper _) guard want
  have I : Inv (cxOf CX P w K mg base N qual (defScope st) f cdv A outer s H E) [] (start N vs) H s1 := inv_start S room.hd env size rel x
  refine wpAny_mono (ht.run [] s1 (start N vs) H _ I hq) (fun fl s' hs => ?_) fun e s' hs => hs
  cases fl with
  | ret u =>
    obtain ⟨v, σ', H', J, rv, q⟩ := hs
    exact ⟨v, H', J.os, J.bare, J.base, J.hok, rv, q⟩
  | next =>
    obtain ⟨σ', H', J, q⟩ := hs
    exact ⟨V.non, H', J.os, J.bare, J.base, J.hok, rfl, q⟩
  | brk => exact (let ⟨_, _, _, q⟩ := hs; q : False).elim
  | cont => exact (let ⟨_, _, _, q⟩ := hs; q : False).elim
/-- the same, where no exception leaves it -/
theorem FnG.ok {qual : Str} {st : Stmt} {x : Str} {N : List Str} (F : Fun K x qual st f fd) (S : FnScope N ps (defScope st)) (len : ∀ vs H Q E, sp vs H Q E → vs.length = ps.length)
    (hbody : ∀ (cdv : Value) (A : Around) (outer : List Env) (s : Shared) (H : Hp) (vs : List V) (Q : VK) (E : XK), Room k (A.deeper (envOfC qual (defScope st) s.heap.objs.size f cdv)) →
      (A.deeper (envOfC qual (defScope st) s.heap.objs.size f cdv)).guards = some [] → sp vs H Q E →
      ∃ t, PSs (cxOf CX0 P w K mg base N qual (defScope st) f cdv A outer s H E).nox (defBody st) t ∧ t { nx := fun _ H' => Q .non H', rt := Q } (start N vs) H) : FnG P w K mg base CX0 (k + 1) f fd ps sp :=
  FnG.of_body F S len fun cdv A outer s H vs Q E hr hg h => let ⟨t, a, b⟩ := hbody cdv A outer s H vs Q E hr hg h; ⟨t, a.nox, b⟩
end
section
variable {X : Cx} {CX : CXT} {k : Nat} {f : Addr} {fd : FuncData} {ps : List Str} {sp : Sp} {E : XK} {x : Str} {p pos : Pos} {e : Expr} {es : List Expr} {t : TA}
/-- f(..) of such a def -/
theorem pe_callG (F : FnG X.prog X.w X.K X.mg X.base CX k f fd ps sp) (hr : Room k X.A) (gd : X.A.guards = some []) (hg : Gl X x) (hm : X.mg x = some (.ref f)) (hk : PySem.W.keepIn X.K (.ref f) = true) (hb : Binds X.K fd ps []) (hx : Passes CX X E)
    (ha : PA X (e :: es) t) (hdb : (x == ("__debug__" : Str)) = false := by decide) (he : starEach (e :: es) X.env = (false, eval e X.env) :: starEach es X.env := by rfl) (hpl : (backTo pos (starEach es X.env)).any (·.1) = false := by rfl) :
    PE X (.Call (.Name x p) (e :: es) [] pos) (tCall sp [] E t) := by
  refine ⟨fun pins s σ H Q I h => ?_⟩
  refine wpAny_Call_Name_kw (ld_glob I hg hm ?_ hdb)
  refine PySem.W.callWith_K (h₀ := X.base) I.ok.mod.kin hk (thn (ha.run pos pins s σ H _ I h) fun us s1 ⟨vs, H1, I1, r, q⟩ => ⟨I1.kIn, ?_⟩) he hpl
  have q' : sp vs H1 Q E := by
    have z : sp (vs ++ []) H1 Q E := q
    rw [List.append_nil] at z
    exact z
  have hl : us.length = ps.length := by rw [← r.length]; exact F.len _ _ _ _ q'
  have b := hb s1 us I1.kIn (by rw [List.append_nil]; exact hl)
  rw [List.append_nil] at b
  refine wpAny_call (codeAny_mono (F.run X.A X.stack s1 H1 ⟨us, []⟩ us vs Q E hr gd I1.env0 b r q') fun r' s' hq => ?_)
  cases r' with
  | error z => exact hx pins σ H1 s1 z s' I1 hq
  | ok fl =>
    cases fl with
    | ret u => exact I1.after hq
    | next => exact False.elim hq
    | brk => exact False.elim hq
    | cont => exact False.elim hq
end
/-- the script as the one thing that is tracked: at a, locked, where the written part has it not -/
def scriptH (K : PySem.W.Frag) (a : Addr) (o : Obj) (xs : List V) : Hp := fun b => if b = a ∧ K.lookup a = none then some (.frz o (.lst xs)) else none
theorem scriptH_some {K : PySem.W.Frag} {a b : Addr} {o : Obj} {xs : List V} {u : HO} (h : scriptH K a o xs b = some u) : b = a ∧ K.lookup a = none ∧ u = .frz o (.lst xs) := by
  unfold scriptH at h
  by_cases c : b = a ∧ K.lookup a = none
  · rw [if_pos c] at h
    exact ⟨c.1, c.2, (Option.some.inj h).symm⟩
  · rw [if_neg c] at h
    cases h
/-- the law's own call, from a promise that is kept where nothing is being shown -/
theorem law_callG {P : Program} {w : World} {K : PySem.W.Frag} {mg mb : Str → Option Value} {CX : CXT} {k : Nat} {fa a : Addr} {fd : FuncData} {x : Str} {sp : Sp} {s : Shared} {vs : List Value} {ns : List Int}
    (KX : K.In s.heap) (hns : s.heap.Ns mainGlobals mg) (hb : s.heap.Ns builtinsNs mb) (hbb : ∀ x : Str, x ≠ "__name__" → mb x = bootBuiltins x) (hlim : s.heap.NoLimit) (hg : s.gens = #[])
    (ha : s.heap.get? a = some { cls := .type "list", data := .seq vs.toArray }) (hi : IntsAre vs ns) (hl : ns.length ≤ sizeLine) (hr : Room k callerA)
    (F : ∀ base : Heap, K.In base → base.Ns mainGlobals mg → FnG P w K mg base CX k fa fd [x] sp) (hbind : ∀ (s : Shared) (u : Value), BindsTo s fd ⟨[u], []⟩ [(x, u)])
    (hsp : ∀ H : Hp, Only H → SqL K H a (ns.map V.int) → sp [.ref a] H (fun v _ => v = .bl true) fun _ _ _ => False)
    (hCX : ∀ H e s', CX [] H s (fun _ _ _ => False) e s' → False) :
    codeAny (model P w) callerA (.call (.ref fa) ⟨[.ref a], []⟩) (fun r s' => r = .ok (.ret (.bool true)) ∧ OldK s.heap s'.heap ∧ s'.os = s.os ∧ AllBare s'.gens) s := by
  have rv := vals_ints hi
  have lenV := hi.length
  let O : Obj := { cls := .type "list", data := .seq vs.toArray }
  let H : Hp := scriptH K a O (ns.map V.int)
  have only : Only H := fun b => by
    cases q : H b with
    | none => exact .inl rfl
    | some u => exact .inr ⟨O, ns.map V.int, by rw [(scriptH_some q).2.2]⟩
  have hS : SqL K H a (ns.map V.int) := by
    cases hk : K.lookup a with
    | none => exact .inl (.inr ⟨O, if_pos ⟨rfl, hk⟩⟩)
    | some o =>
      have e := KX a o hk
      rw [ha] at e
      cases e
      exact .inr ⟨_, vs.toArray, _, hk, rfl, rfl, rfl, by rw [List.size_toArray, lenV]; exact hl, by simpa using rv⟩
  have hok : HOk P w H s.heap := fun b u q => by
    obtain ⟨e1, _, e3⟩ := scriptH_some q
    rw [e1, e3]
    exact ⟨ha, by rw [List.length_map]; exact hl, vs, _, rv, ha⟩
  have notDict : ∀ {b : Addr} {o : Obj} {es : Array DictEntry} {ep : Nat}, s.heap.get? b = some o → o.data = .dict es ep → H b = none := fun {b o es ep} e d => by
    cases q : H b with
    | none => rfl
    | some u =>
      rw [(scriptH_some q).1, ha] at e
      cases e
      cases (show Data.seq vs.toArray _ = Data.dict es ep from d)
  have nsK : ∀ {b : Addr} {m : Str → Option Value}, s.heap.Ns b m → (hidT s.heap H).Ns b m := fun {b m} ⟨o, es, ep, e, d, r⟩ => ⟨o, es, ep, hidT_get e (notDict e d), d, r⟩
  have inK : K.In (hidT s.heap H) := fun b o e => hidT_get (KX b o e) (by
    cases q : H b with
    | none => rfl
    | some u =>
      obtain ⟨e1, e2, _⟩ := scriptH_some q
      rw [e1, e2] at e
      cases e)
  obtain ⟨mc, l1, l2⟩ := hlim
  have env : Env0 P w K mg (hidT s.heap H) callerA [] s H :=
    ⟨rfl, ⟨inK, nsK hns, ⟨mb, nsK hb, hbb⟩, ⟨mc, nsK l1, l2⟩⟩, fun b o e => of_hidT e, Nat.le_of_eq (hidT_size _ _), trivial, fun b m => absurd (show b ∈ ([] : List Addr) from m) (by simp), hok, .of_eq hg⟩
  refine codeAny_mono ((F _ inK (nsK hns)).run callerA [] s H ⟨[.ref a], []⟩ [.ref a] [.ref a] _ _ hr rfl env (hbind s (.ref a)) (.cons rfl .nil) (hsp H only hS)) fun r s' h => ?_
  cases r with
  | error e => exact (hCX H e s' h).elim
  | ok fl =>
    cases fl with
    | next => exact False.elim h
    | brk => exact False.elim h
    | cont => exact False.elim h
    | ret u =>
      obtain ⟨v, H', os, bare, un, hok', r', q⟩ := h
      obtain rfl : v = .bl true := q
      obtain rfl : u = Value.bool true := r'
      refine ⟨rfl, OldK.of_keep fun b o e => ?_, os, bare⟩
      cases q : H b with
      | none => exact un.keep b o e q (fun z => absurd (show b ∈ ([] : List Addr) from z) (by simp)) (by simp)
      | some u =>
        obtain ⟨_, _, eu⟩ := scriptH_some q
        rw [eu] at q
        have e1 := (hok b _ q).1
        have e2 := (hok' b _ (un.frzs b O _ q)).1
        rw [e] at e1
        cases e1
        exact e2
theorem walk_ofG {l : PySem.W.OpenLaw} {n k : Nat} {q : Program} {loose : List Str} {XP : (Str → Option Value) → Heap → Prop} {YP : World → Heap → Prop} {d : DefRec} {K : Params → PySem.W.Frag} {CX : World → CXT} {sp : World → Sp} {x : Str}
    (hn : l.most = some n) (hn2 : n ≤ sizeLine) (hdf : d.params.defaults = []) (hr : Room k callerA)
    (hY : ∀ (w : World) (h : Heap), YP w h → (K w.params).In h)
    (F : ∀ (w : World) (mg : Str → Option Value) (fa : Addr) (h : Heap), (K w.params).In h → h.Ns mainGlobals mg → mg d.name = some (.ref fa) →
      ∃ fd : FuncData, (∀ (s : Shared) (u : Value), BindsTo s fd ⟨[u], []⟩ [(x, u)]) ∧
        ∀ base : Heap, (K w.params).In base → base.Ns mainGlobals mg → FnG l.prog w (K w.params) mg base (CX w) k fa fd [x] (sp w))
    (hsp : ∀ (w : World) (H : Hp) (a : Addr) (ns : List Int), ns.length ≤ n → Only H → SqL (K w.params) H a (ns.map V.int) → sp w [.ref a] H (fun v _ => v = .bl true) fun _ _ _ => False)
    (hCX : ∀ (w : World) (H : Hp) (s : Shared) (e : Value) (s' : Shared), CX w [] H s (fun _ _ _ => False) e s' → False) :
    PySem.W.WalkO q loose XP YP l.row.toRowW d [] (fun f vs => PySem.call f vs) := by
  refine Att.attach_call hn hdf fun w s₀ s₁ mg mb fa o pm cd doc a vs ns G Y ho hd hcd hmg hobj hints hlen hg => ?_
  obtain ⟨fd, hb, hF⟩ := F w mg fa _ (hY w _ Y) G.T.g hmg
  exact law_callG (hY w _ Y) G.T.g G.T.b G.T.builtins G.T.nolimit hg hobj hints (Nat.le_trans hlen hn2) hr hF hb (fun H hO hS => hsp w H a ns hlen hO hS) fun H e s' => hCX w H s₁ e s'
end Gd
/-! ### repr of what is tracked: None, bools, ints, texts, lists, tuples and dicts of them -/
namespace Gd
open PySem PySem.Spec PyProof.Rows L2 PySem.Builtin.List
def keyText : Key → Str
  | .inl i => ((toString i : String) : Str)
  | .inr x => reprText x
def keyFits : Key → Prop
  | .inl i => i.natAbs.log2 < 1920
  | .inr x => (reprText x).length ≤ sizeLine
/-- a plain value and its text -/
inductive Sc : V → Str → Prop where
  | non : Sc .non "None"
  | bl (b : Bool) : Sc (.bl b) (if b then "True" else "False")
  | int (i : Int) (h : i.natAbs.log2 < 1920) : Sc (.int i) ((toString i : String) : Str)
  | str (x : Str) (h : (reprText x).length ≤ sizeLine) : Sc (.str x) (reprText x)
/-- v is shown as t: nested at most n deep -/
def Sh (H : Hp) : Nat → V → Str → Prop
  | 0, v, t => Sc v t
  | n + 1, v, t => Sc v t ∨ (∃ a xs ts, v = .ref a ∧ H a = some (.lst xs) ∧ Paired (Sh H n) xs ts ∧ t = listText ts) ∨
      (∃ a xs ts, v = .ref a ∧ H a = some (.tup xs) ∧ Paired (Sh H n) xs ts ∧ t = tupleText ts) ∨
      ∃ a kvs ts, v = .ref a ∧ H a = some (.dK kvs) ∧ Paired (fun (p : Key × V) t => keyFits p.1 ∧ Sh H n p.2 t) kvs ts ∧ t = dictText (List.zipWith (fun (p : Key × V) t => keyText p.1 ++ ": " ++ t) kvs ts)
theorem Sh.sc {H : Hp} {n : Nat} {v : V} {t : Str} (h : Sc v t) : Sh H n v t := by
  cases n with
  | zero => exact h
  | succ n => exact .inl h
theorem Sh.lst {H : Hp} {n : Nat} {a : Addr} {xs : List V} {ts : List Str} (e : H a = some (.lst xs)) (h : Paired (Sh H n) xs ts) : Sh H (n + 1) (.ref a) (listText ts) := .inr (.inl ⟨a, xs, ts, rfl, e, h, rfl⟩)
theorem Sh.tup {H : Hp} {n : Nat} {a : Addr} {xs : List V} {ts : List Str} (e : H a = some (.tup xs)) (h : Paired (Sh H n) xs ts) : Sh H (n + 1) (.ref a) (tupleText ts) := .inr (.inr (.inl ⟨a, xs, ts, rfl, e, h, rfl⟩))
theorem Sh.dK {H : Hp} {n : Nat} {a : Addr} {kvs : List (Key × V)} {ts : List Str} (e : H a = some (.dK kvs)) (h : Paired (fun (p : Key × V) t => keyFits p.1 ∧ Sh H n p.2 t) kvs ts) :
    Sh H (n + 1) (.ref a) (dictText (List.zipWith (fun (p : Key × V) t => keyText p.1 ++ ": " ++ t) kvs ts)) := .inr (.inr (.inr ⟨a, kvs, ts, rfl, e, h, rfl⟩))
theorem Sc.det {v : V} {t t' : Str} (h : Sc v t) (h' : Sc v t') : t = t' := by
  cases h <;> cases h' <;> rfl
theorem Sc.noRef {a : Addr} {t : Str} (h : Sc (.ref a) t) : False := nomatch h
theorem paired_det {α : Type} {F G : α → Str → Prop} (k : ∀ a t t', F a t → G a t' → t = t') : ∀ {xs : List α} {ts ts' : List Str}, Paired F xs ts → Paired G xs ts' → ts = ts'
  | _, _, _, .nil, .nil => rfl
  | _, _, _, .cons h r, .cons h' r' => by rw [k _ _ _ h h', paired_det k r r']
/-- the text is one -/
theorem Sh.det {H : Hp} : ∀ (n : Nat) (v : V) (t : Str), Sh H n v t → ∀ (m : Nat) (t' : Str), Sh H m v t' → t = t'
  | 0, v, t, h, 0, t', h' => Sc.det h h'
  | 0, v, t, h, m + 1, t', h' => by
    rcases h' with h' | ⟨a, _, _, rfl, _⟩ | ⟨a, _, _, rfl, _⟩ | ⟨a, _, _, rfl, _⟩
    · exact Sc.det h h'
    all_goals exact (Sc.noRef h).elim
  | n + 1, v, t, h, 0, t', h' => by
    rcases h with h | ⟨a, _, _, rfl, _⟩ | ⟨a, _, _, rfl, _⟩ | ⟨a, _, _, rfl, _⟩
    · exact Sc.det h h'
    all_goals exact (Sc.noRef h').elim
  | n + 1, v, t, h, m + 1, t', h' => by
    rcases h with h | ⟨a, xs, ts, rfl, e, p, rfl⟩ | ⟨a, xs, ts, rfl, e, p, rfl⟩ | ⟨a, xs, ts, rfl, e, p, rfl⟩
    · rcases h' with h' | ⟨a, _, _, rfl, _⟩ | ⟨a, _, _, rfl, _⟩ | ⟨a, _, _, rfl, _⟩
      · exact Sc.det h h'
      all_goals exact (Sc.noRef h).elim
    · rcases h' with h' | ⟨b, xs', ts', eb, e', p', rfl⟩ | ⟨b, xs', ts', eb, e', p', rfl⟩ | ⟨b, xs', ts', eb, e', p', rfl⟩
      · exact (Sc.noRef h').elim
      all_goals
        cases eb
        rw [e] at e'
        cases e'
      rw [paired_det (fun a t t' q q' => Sh.det n a t q m t' q') p p']
    · rcases h' with h' | ⟨b, xs', ts', eb, e', p', rfl⟩ | ⟨b, xs', ts', eb, e', p', rfl⟩ | ⟨b, xs', ts', eb, e', p', rfl⟩
      · exact (Sc.noRef h').elim
      all_goals
        cases eb
        rw [e] at e'
        cases e'
      rw [paired_det (fun a t t' q q' => Sh.det n a t q m t' q') p p']
    · rcases h' with h' | ⟨b, xs', ts', eb, e', p', rfl⟩ | ⟨b, xs', ts', eb, e', p', rfl⟩ | ⟨b, xs', ts', eb, e', p', rfl⟩
      · exact (Sc.noRef h').elim
      all_goals
        cases eb
        rw [e] at e'
        cases e'
      rw [paired_det (fun a t t' q q' => Sh.det n a.2 t q.2 m t' q'.2) p p']
theorem Sh.keep {H H' : Hp} (k : ∀ a o, H a = some o → H' a = some o) : ∀ (n : Nat) (v : V) (t : Str), Sh H n v t → Sh H' n v t
  | 0, _, _, h => h
  | n + 1, _, _, h => by
    rcases h with h | ⟨a, xs, ts, rfl, e, p, rfl⟩ | ⟨a, xs, ts, rfl, e, p, rfl⟩ | ⟨a, xs, ts, rfl, e, p, rfl⟩
    · exact .inl h
    · exact Sh.lst (k _ _ e) (L2.Paired.mapP p fun x t q => Sh.keep k n x t q)
    · exact Sh.tup (k _ _ e) (L2.Paired.mapP p fun x t q => Sh.keep k n x t q)
    · exact Sh.dK (k _ _ e) (L2.Paired.mapP p fun x t q => ⟨q.1, Sh.keep k n x.2 t q.2⟩)
section
variable {P : Program} {w : World} {H : Hp} {h : Heap}
def Below (H : Hp) (n : Nat) (b : Addr) : Prop := ∃ m, m ≤ n ∧ ∃ t, Sh H m (.ref b) t
theorem all_repr {n : Nat} (ih : ∀ (v : V) (t : Str) (u : Value), Sh H n v t → RelV v u → ∃ bs : List Addr, (∀ b ∈ bs, Below H n b) ∧ ReprK P w bs h n u t) :
    ∀ {xs : List V} {ts : List Str} {us : List Value}, Paired (Sh H n) xs ts → Vals xs us → ∃ bs : List Addr, (∀ b ∈ bs, Below H n b) ∧ ReprAllK P w bs h n us ts
  | _, _, _, .nil, .nil => ⟨[], (fun _ m => nomatch m), .nil⟩
  | _, _, _, .cons p q, .cons r s => by
    obtain ⟨b1, h1, k1⟩ := ih _ _ _ p r
    obtain ⟨b2, h2, k2⟩ := all_repr ih q s
    exact ⟨b1 ++ b2, fun b m => (List.mem_append.mp m).elim (h1 b) (h2 b), .cons (k1.more fun b m => List.mem_append_left _ m) (k2.more_le (fun b m => List.mem_append_right _ m) (Nat.le_refl _))⟩
theorem key_repr {k : Key} {v : Value} (e : keyIs k v = true) (f : keyFits k) (bs : List Addr) (n : Nat) : ReprK P w bs h n v (keyText k) := by
  rcases keyIs_shape e with ⟨i, t, rfl, rfl⟩ | ⟨x, t, rfl, rfl⟩
  · exact .of_is (ReprIs.int t f) _ _ _
  · exact .of_is (ReprIs.str x t f) _ _ _
theorem ReprEntriesK.wider {as as' : List Addr} {d : Nat} (sub : ∀ b ∈ as, b ∈ as') : ∀ {l : List DictEntry} {ts : List Str}, ReprEntriesK P w as h d l ts → ReprEntriesK P w as' h d l ts
  | _, _, .nil => .nil
  | _, _, .cons a b r => .cons (a.more sub) (b.more sub) (ReprEntriesK.wider sub r)
theorem entries_repr {n : Nat} (ih : ∀ (v : V) (t : Str) (u : Value), Sh H n v t → RelV v u → ∃ bs : List Addr, (∀ b ∈ bs, Below H n b) ∧ ReprK P w bs h n u t) :
    ∀ {kvs : List (Key × V)} {ts : List Str} {ws : List (Key × Value)} {es : List DictEntry}, Paired (fun (p : Key × V) t => keyFits p.1 ∧ Sh H n p.2 t) kvs ts → KV kvs ws → Pairs (mixKind P w) es ws →
      ∃ bs : List Addr, (∀ b ∈ bs, Below H n b) ∧ ReprEntriesK P w bs h n es (List.zipWith (fun (p : Key × V) t => keyText p.1 ++ ": " ++ t) kvs ts)
  | _, _, _, _, .nil, .nil, .nil => ⟨[], (fun _ m => nomatch m), .nil⟩
  | _, _, _, _, .cons p q, .cons r s, .cons (e := e) a b c => by
    obtain ⟨b1, h1, k1⟩ := ih _ _ _ p.2 r.2
    obtain ⟨b2, h2, k2⟩ := entries_repr ih q s c
    refine ⟨b1 ++ b2, fun b m => (List.mem_append.mp m).elim (h1 b) (h2 b), ?_⟩
    refine .cons (key_repr (by rw [r.1]; exact a) p.1 _ _) ?_ (ReprEntriesK.wider (fun b m => List.mem_append_right _ m) k2)
    rw [b]
    exact k1.more fun b m => List.mem_append_left _ m
/-- whatever is tracked and is shown as t gives t to repr -/
theorem repr_sh (ok : HOk P w H h) (n : Nat) : ∀ (v : V) (t : Str) (u : Value), Sh H n v t → RelV v u → ∃ bs : List Addr, (∀ b ∈ bs, Below H n b) ∧ ReprK P w bs h n u t := by
  induction n using Nat.strongRecOn with
  | ind n IH =>
    intro v t u hv r
    have plain : Sc v t → ∃ bs : List Addr, (∀ b ∈ bs, Below H n b) ∧ ReprK P w bs h n u t := fun c => by
      refine ⟨[], (fun _ m => nomatch m), ?_⟩
      cases c with
      | non =>
        cases (show u = Value.none from r)
        exact .of_is ReprIs.none _ _ _
      | bl b =>
        cases (show u = Value.bool b from r)
        exact .of_is (ReprIs.bool b) _ _ _
      | int i f =>
        obtain ⟨t, rfl⟩ := (show ∃ t, u = Value.int i t from r)
        exact .of_is (ReprIs.int t f) _ _ _
      | str x f =>
        obtain ⟨t, rfl⟩ := (show ∃ t, u = Value.str x t from r)
        exact .of_is (ReprIs.str x t f) _ _ _
    cases n with
    | zero => exact plain hv
    | succ n =>
      have ih := IH n (Nat.lt_succ_self n)
      -- a ring can't be: what is below has the same text at a lower level
      have ring : ∀ (a : Addr) (bs : List Addr), v = .ref a → (∀ b ∈ bs, Below H n b) → a ∈ bs → ∃ bs : List Addr, (∀ b ∈ bs, Below H (n + 1) b) ∧ ReprK P w bs h (n + 1) u t := fun a bs e hb m => by
        obtain ⟨m, hm, t', ht⟩ := hb a m
        subst e
        have et : t = t' := Sh.det _ _ _ hv _ _ ht
        subst et
        obtain ⟨cs, hc, k⟩ := IH m (by omega) _ _ _ ht r
        exact ⟨cs, fun b q => let ⟨l, hl, x⟩ := hc b q; ⟨l, by omega, x⟩, k.level_le (by omega)⟩
      rcases id hv with c | ⟨a, xs, ts, rfl, e, p, rfl⟩ | ⟨a, xs, ts, rfl, e, p, rfl⟩ | ⟨a, kvs, ts, rfl, e, p, rfl⟩
      · exact plain c
      · cases (show u = Value.ref a from r)
        obtain ⟨_, its, m, rv, ho⟩ := (show ObjOk P w H h a (.lst xs) from ok a _ e)
        obtain ⟨bs, hb, hk⟩ := all_repr ih p rv
        by_cases c : a ∈ bs
        · exact ring a bs rfl hb c
        · refine ⟨a :: bs, fun b q => ?_, ?_⟩
          · rcases List.mem_cons.mp q with rfl | q
            · exact ⟨n + 1, Nat.le_refl _, _, hv⟩
            · obtain ⟨l, hl, x⟩ := hb b q
              exact ⟨l, by omega, x⟩
          · cases its with
            | nil =>
              cases hk
              rw [listText_nil]
              exact ReprK.listEmpty ho rfl rfl
            | cons x l => exact ReprK.list ho rfl rfl c (by simpa using hk.length_eq) (fun i y q => hk.item i y (by simpa using q))
      · cases (show u = Value.ref a from r)
        obtain ⟨_, its, rv, o, ho, hc, m, hd⟩ := (show ObjOk P w H h a (.tup xs) from ok a _ e)
        obtain ⟨bs, hb, hk⟩ := all_repr ih p rv
        by_cases c : a ∈ bs
        · exact ring a bs rfl hb c
        · refine ⟨a :: bs, fun b q => ?_, ReprK.tuple ho hc hd c (by simpa using hk)⟩
          rcases List.mem_cons.mp q with rfl | q
          · exact ⟨n + 1, Nat.le_refl _, _, hv⟩
          · obtain ⟨l, hl, x⟩ := hb b q
            exact ⟨l, by omega, x⟩
      · cases (show u = Value.ref a from r)
        obtain ⟨_, ys, ws, rv, o, es, ep, ho, hc, hd, _, hp, _⟩ := (show ObjOk P w H h a (.dK kvs) from ok a _ e)
        obtain ⟨bs, hb, hk⟩ := entries_repr ih p rv hp
        by_cases c : a ∈ bs
        · exact ring a bs rfl hb c
        · refine ⟨a :: bs, fun b q => ?_, ReprK.dict ho hc.1 hd ys c hk⟩
          rcases List.mem_cons.mp q with rfl | q
          · exact ⟨n + 1, Nat.le_refl _, _, hv⟩
          · obtain ⟨l, hl, x⟩ := hb b q
            exact ⟨l, by omega, x⟩
/-- repr(v) -/
theorem call_sh (ok : HOk P w H h) (n : Nat) : ∀ (v : V) (t : Str) (u : Value), Sh H n v t → RelV v u → t.length ≤ sizeLine → ∀ (A : Around) (E : Value → Shared → Prop) (s : Shared) (Q : Value → Shared → Prop), A.guards = some [] → A.units + (n + 1) < cLine → s.heap = h →
    (∀ h' z tk, (∀ b o, s.heap.get? b = some o → h'.get? b = some o) → Q (.str t z) { s with heap := h', toks := tk }) → wpAny (model P w) A (call (.builtin "repr") [u]) Q E s := by
  induction n using Nat.strongRecOn with
  | ind n IH =>
    intro v t u hv r hz A E s Q hg hu eh hQ
    subst eh
    have plain : Sc v t → wpAny (model P w) A (call (.builtin "repr") [u]) Q E s := fun c => by
      cases c with
      | non =>
        cases (show u = Value.none from r)
        exact PySem.P.repr_of_none (hQ s.heap _ _ fun _ _ e => e)
      | bl b =>
        cases (show u = Value.bool b from r)
        exact PySem.P.repr_of_bool (by
          have q := hQ s.heap s.toks (s.toks + 1) fun _ _ e => e
          cases b <;> exact q)
      | int i f =>
        obtain ⟨t, rfl⟩ := (show ∃ t, u = Value.int i t from r)
        exact PySem.P.repr_of_int f (hQ s.heap _ _ fun _ _ e => e)
      | str x f =>
        obtain ⟨t, rfl⟩ := (show ∃ t, u = Value.str x t from r)
        exact PySem.P.repr_of_str (hQ s.heap _ _ fun _ _ e => e) f
    cases n with
    | zero => exact plain hv
    | succ n =>
      have ih := fun v t u => repr_sh (P := P) (w := w) ok n v t u
      have ring : ∀ (a : Addr) (bs : List Addr), v = .ref a → (∀ b ∈ bs, Below H n b) → a ∈ bs → wpAny (model P w) A (call (.builtin "repr") [u]) Q E s := fun a bs e hb m => by
        obtain ⟨m, hm, t', ht⟩ := hb a m
        subst e
        have et : t = t' := Sh.det _ _ _ hv _ _ ht
        subst et
        exact IH m (by omega) _ _ _ ht r hz A E s Q hg (by omega) rfl hQ
      have hu1 : A.in1.units + (n + 1) < cLine := by
        show A.units + 1 + (n + 1) < cLine
        omega
      have hk0 : ∀ b o, s.heap.get? b = some o → s.heap.get? b = some o := fun _ _ e => e
      rcases id hv with c | ⟨a, xs, ts, rfl, e, p, rfl⟩ | ⟨a, xs, ts, rfl, e, p, rfl⟩ | ⟨a, kvs, ts, rfl, e, p, rfl⟩
      · exact plain c
      · cases (show u = Value.ref a from r)
        obtain ⟨_, its, m, rv, ho⟩ := (show ObjOk P w H s.heap a (.lst xs) from ok a _ e)
        obtain ⟨bs, hb, hk⟩ := all_repr ih p rv
        by_cases c : a ∈ bs
        · exact ring a bs rfl hb c
        · refine call_repr_slot (by omega) (T := "list") ⟨_, ho, rfl⟩ F.slot_list_repr.toG ?_
          cases its with
          | nil =>
            cases hk
            rw [listText_nil] at hQ
            exact call_list_repr_empty ⟨_, ho, rfl⟩ ho rfl ⟨_, _, rfl, hQ s.heap _ _ fun _ _ e => e⟩
          | cons x l =>
            exact call_list_reprK ho rfl rfl c (by simpa using hk.length_eq) (fun i y q => hk.item i y (by simpa using q)) (A := A.in1) hg (fun b _ => Clear.nil b) hu1 hk0 (fun h' z tk k => ⟨_, _, rfl, hQ h' z tk k⟩) hz
      · cases (show u = Value.ref a from r)
        obtain ⟨_, its, rv, o, ho, hc, m, hd⟩ := (show ObjOk P w H s.heap a (.tup xs) from ok a _ e)
        obtain ⟨bs, hb, hk⟩ := all_repr ih p rv
        by_cases c : a ∈ bs
        · exact ring a bs rfl hb c
        · exact call_repr_slot (by omega) (T := "tuple") ⟨_, ho, hc⟩ F.slot_tuple_repr (call_tuple_reprK ho hc hd c (by simpa using hk) (A := A.in1) hg (fun b _ => Clear.nil b) hu1 hk0 (fun h' z tk k => ⟨_, _, rfl, hQ h' z tk k⟩) hz)
      · cases (show u = Value.ref a from r)
        obtain ⟨_, ys, ws, rv, o, es, ep, ho, hc, hd, _, hp, _⟩ := (show ObjOk P w H s.heap a (.dK kvs) from ok a _ e)
        obtain ⟨bs, hb, hk⟩ := entries_repr ih p rv hp
        by_cases c : a ∈ bs
        · exact ring a bs rfl hb c
        · exact call_repr_slot (by omega) (T := "dict") ⟨_, ho, hc.1⟩ F.slot_dict_repr (call_dict_reprK ho hc.1 hd ys c hk (A := A.in1) hg (fun b _ => Clear.nil b) hu1 hk0 (fun h' z tk k => ⟨_, _, rfl, hQ h' z tk k⟩) hz)
end
section
variable {X : Cx}
def rRepr : List V → Hp → VK → Prop := fun vs H Q => ∃ (v : V) (n : Nat) (t : Str), vs = [v] ∧ Sh H n v t ∧ n ≤ 50 ∧ t.length ≤ sizeLine ∧ Q (.str t) H
theorem call_repr (gd : X.A.guards = some []) (hu : X.A.units + 64 < cLine) : CallR X (.builtin "repr") rRepr := by
  intro pins s σ H vs us Q I r h
  obtain ⟨v, n, t, rfl, hv, hn, hz, q⟩ := h
  obtain ⟨u, rfl, ru⟩ := vals1 r
  exact call_sh I.hok n v t u hv ru hz X.A _ s _ gd (by omega) rfl fun h' z tk k => ⟨.str t, H, I.kept k, ⟨z, rfl⟩, q⟩
end
end Gd
/-! ### the dice: the law's own drawn numbers -/
namespace Pr
open PySem PySem.Spec PyProof.Rows L2
/-- all that was tracked, but the object at d, is as it was -/
def Kp (d : Addr) (H H' : Hp) : Prop := ∀ b o, b ≠ d → H b = some o → H' b = some o
theorem Kp.refl (d : Addr) (H : Hp) : Kp d H H := fun _ _ _ h => h
theorem Kp.trans {d : Addr} {H H1 H2 : Hp} (a : Kp d H H1) (b : Kp d H1 H2) : Kp d H H2 := fun c o n h => b c o n (a c o n h)
theorem Kp.upd {d : Addr} {H : Hp} {o : HO} : Kp d H (upd H d o) := fun b u n h => by rw [upd_ne n]; exact h
theorem Kp.new {d p : Addr} {H : Hp} {o : HO} (n : H p = none) : Kp d H (L2.upd H p o) := fun b u _ h => by rw [upd_ne (ne_of_none h n)]; exact h
theorem Kp.same {d : Addr} {H H' : Hp} (s : Same H H') : Kp d H H' := fun b o _ h => s b o h
theorem Same.new {p : Addr} {H : Hp} {o : HO} (n : H p = none) : Same H (L2.upd H p o) := fun b u h => by rw [upd_ne (ne_of_none h n)]; exact h
/-- d is new and then written -/
theorem Kp.over {d : Addr} {H H1 H2 : Hp} (n : H d = none) (s : Same H H1) (k : Kp d H1 H2) : Same H H2 := fun b o h => k b o (ne_of_none h n) (s b o h)
theorem Kp.seq {K : PySem.W.Frag} {d a : Addr} {H H' : Hp} {xs : List V} (k : Kp d H H') (n : a ≠ d) (h : SqL K H a xs) : SqL K H' a xs := by
  rcases h with (h | ⟨o, h⟩) | h
  · exact .inl (.inl (k _ _ n h))
  · exact .inl (.inr ⟨o, k _ _ n h⟩)
  · exact .inr h
/-- the dice that stand at d: what is left of the cell's number, the seed, the number of draws (at most n) -/
structure Dice (H : Hp) (d : Addr) (n : Nat) : Prop where
  at_ : ∃ x y c : Int, H d = some (.lst [.int x, .int y, .int c]) ∧ 0 ≤ x ∧ x < 2 ^ 400 ∧ 0 ≤ y ∧ y < 2 ^ 40 ∧ 0 ≤ c ∧ c ≤ n
  few : n ≤ 1000000
theorem Dice.kept {H H' : Hp} {d : Addr} {n : Nat} (D : Dice H d n) (s : ∀ o, H d = some o → H' d = some o) : Dice H' d n := by
  obtain ⟨⟨x, y, c, e, r⟩, f⟩ := D
  exact ⟨⟨x, y, c, s _ e, r⟩, f⟩
theorem Dice.same {H H' : Hp} {d : Addr} {n : Nat} (D : Dice H d n) (s : Same H H') : Dice H' d n := D.kept fun o e => s _ o e
theorem Dice.more {H : Hp} {d : Addr} {n m : Nat} (D : Dice H d n) (h : n ≤ m) (hm : m ≤ 1000000) : Dice H d m := by
  obtain ⟨⟨x, y, c, e, r1, r2, r3, r4, r5, r6⟩, f⟩ := D
  exact ⟨⟨x, y, c, e, r1, r2, r3, r4, r5, by omega⟩, hm⟩
theorem Dice.there {H : Hp} {d : Addr} {n : Nat} (D : Dice H d n) : ∃ xs, H d = some (.lst xs) := by
  obtain ⟨⟨x, y, c, e, _⟩, _⟩ := D
  exact ⟨_, e⟩
def spDice (K : PySem.W.Frag) : Sp := fun vs H Q _ => ∃ (a : Addr) (ns : List Int) (i : Nat), vs = [.ref a, .int i] ∧ SqL K H a (ns.map V.int) ∧ i < 64 ∧
  ∀ (d : Addr) (H' : Hp), H d = none → Same H H' → Dice H' d 0 → Q (.ref d) H'
def spRoll : Sp := fun vs H Q _ => ∃ (d : Addr) (t : Int) (n : Nat), vs = [.ref d, .int t] ∧ Dice H d n ∧ n < 1000000 ∧ 0 < t ∧ t < 2 ^ 400 ∧
  ∀ (r : Int) (o : HO), 0 ≤ r → r < t → Dice (upd H d o) d (n + 1) → Q (.int r) (upd H d o)
def spPick (K : PySem.W.Frag) : Sp := fun vs H Q _ => ∃ (d p : Addr) (n : Nat) (xs : List V), vs = [.ref d, .ref p] ∧ p ≠ d ∧ (SqL K H p xs ∨ SqT K H p xs) ∧ xs ≠ [] ∧ xs.length ≤ 1000 ∧ Dice H d n ∧ n < 1000000 ∧
  ∀ (v : V) (o : HO), v ∈ xs → Dice (upd H d o) d (n + 1) → Q v (upd H d o)
def spMixed (K : PySem.W.Frag) : Sp := fun vs H Q _ => ∃ (d p : Addr) (n : Nat) (xs : List V), vs = [.ref d, .ref p] ∧ p ≠ d ∧ SqL K H p xs ∧ xs.length ≤ 1000 ∧ Dice H d n ∧ n + xs.length < 1000000 ∧
  ∀ (q : Addr) (ys : List V) (H' : Hp), q ≠ d → H q = none → Kp d H H' → H' q = some (.lst ys) → ys.Perm xs → Dice H' d (n + xs.length) → Q (.ref q) H'
theorem fmod_pos {i j : Int} (h : 0 < j) : 0 ≤ i.fmod j ∧ i.fmod j < j := ⟨Int.fmod_nonneg_of_pos _ h, Int.fmod_lt_of_pos _ h⟩
theorem emod_pos {i j : Int} (h : 0 < j) : 0 ≤ i % j ∧ i % j < j := ⟨Int.emod_nonneg _ (by omega), Int.emod_lt_of_pos _ h⟩
theorem c10 {k : Nat} (h : k ≤ 1000000) : CPow 10 (k : Int) := ⟨by omega, by omega, by decide⟩
end Pr
namespace Pr
open PySem PySem.Spec PyProof.Rows L2
/-! ### the text by places -/
def topS (i : Nat) : Stmt := PySem.Challenge.pw_munchbehind_k04_whole_subtrees_and_level.main.body.getD i (.Pass ⟨0, 0, 0, 0⟩)
abbrev sInteger : Stmt := topS 8
abbrev sCount : Stmt := topS 9
abbrev sName : Stmt := topS 10
abbrev sAre : Stmt := topS 14
abbrev sWhole : Stmt := topS 15
abbrev sDice : Stmt := topS 18
abbrev sRoll : Stmt := topS 19
abbrev sPick : Stmt := topS 20
abbrev sMixed : Stmt := topS 21
abbrev sDrawn : Stmt := topS 22
abbrev sArs : Stmt := topS 23
abbrev sStops : Stmt := topS 24
abbrev sPlace : Stmt := topS 25
abbrev sLevels : Stmt := topS 26
abbrev sLaw : Stmt := topS 27
/-- the methods of the class -/
def inS (i : Nat) : Stmt := match topS 16 with
  | .ClassDef _ _ _ body _ _ _ _ _ _ _ => body.getD i (.Pass ⟨0, 0, 0, 0⟩)
  | _ => .Pass ⟨0, 0, 0, 0⟩
abbrev mInit : Stmt := inS 0
abbrev mIsTree : Stmt := inS 6
abbrev mEnd : Stmt := inS 8
abbrev mSub : Stmt := inS 9
abbrev mKids : Stmt := inS 10
abbrev mAbove : Stmt := inS 11
abbrev mLevels : Stmt := inS 12
abbrev mChTree : Stmt := inS 25
abbrev mChPlace : Stmt := inS 26
abbrev m_End : Stmt := inS 28
abbrev mParents : Stmt := inS 29
/-- the built-in names that the module leaves alone -/
structure Free (mg : Str → Option Value) : Prop where
  len : mg "len" = none
  int : mg "int" = none
  abs : mg "abs" = none
  max : mg "max" = none
  min : mg "min" = none
  list : mg "list" = none
  range : mg "range" = none
  isi : mg "isinstance" = none
  bool : mg "bool" = none
  tuple : mg "tuple" = none
  str : mg "str" = none
  dict : mg "dict" = none
  sorted : mg "sorted" = none
  all : mg "all" = none
  enumerate : mg "enumerate" = none
end Pr
namespace Pr
open PySem PySem.Spec PyProof.Rows L2
theorem dice_end (l g : Int) (b : Int) {i : Nat} (hi : i < 64) (hb : 0 ≤ b ∧ b ≤ 1) :
    0 ≤ l.fmod (10 ^ (60 : Int).toNat * 10 ^ (60 : Int).toNat) ∧ l.fmod (10 ^ (60 : Int).toNat * 10 ^ (60 : Int).toNat) < 2 ^ 400 ∧
    0 ≤ g % 2147483563 * 41 + 613 * (i : Int) + 17 * b + 7 ∧ g % 2147483563 * 41 + 613 * (i : Int) + 17 * b + 7 < 2 ^ 40 ∧ (0 : Int) ≤ 0 ∧ (0 : Int) ≤ (0 : Nat) := by
  have h1 := fmod_pos (i := l) (j := 10 ^ (60 : Int).toNat * 10 ^ (60 : Int).toNat) (by decide +kernel)
  have h2 : (10 ^ (60 : Int).toNat * 10 ^ (60 : Int).toNat : Int) < 2 ^ 400 := by decide +kernel
  have h3 := emod_pos (i := g) (j := 2147483563) (by decide)
  refine ⟨h1.1, Int.lt_trans h1.2 h2, by omega, by omega, by omega, by omega⟩
section
variable {P : Program} {w : World} {K : PySem.W.Frag} {mg : Str → Option Value} {base : Heap}
theorem scDice : FnScope ["script", "spot", "cell", "great", "left"] ["script", "spot"] (defScope sDice) := ⟨rfl, rfl, rfl, by decide +kernel, rfl, by decide +kernel, by decide +kernel⟩
theorem ok_dice {f : Addr} {fd : FuncData} (F : Fun K "_law_dice" "_law_dice" sDice f fd) (T : Free mg) : FnOk P w K mg base CX0 1 f fd ["script", "spot"] (spDice K) := by
  refine F.ok scDice (fun vs H Q E h => ?_) (fun cdv A outer s H vs Q E hr h => ?_)
  · obtain ⟨a, ns, i, rfl, _⟩ := h
    rfl
  · obtain ⟨a, ns, i, rfl, hS, hi, k⟩ := h
    refine ⟨_, pss_cons (ps_set (i := 2) scDice.nd rfl (.inl rfl) (pe_ifExp (pt_cmpR op_lt (pv 1) (pe_callB call_len_seq (by rfl) T.len PySem.boot_len (pa_cons (pv 0) pa_nil)) (nomark _))
        (pe_callTy call_int1 (by rfl) T.int (by decide +kernel) (pa_cons (pe_ix ix_list (pv 0) (pv 1) (fun _ _ => rfl)) pa_nil)) (pe_op op_add (pe_op op_mul pe_int (pv 1)) pe_int)))
      (pss_cons (ps_set (i := 3) scDice.nd rfl (.inl rfl) (pe_op op_modN (pe_callB call_abs (by rfl) T.abs (by decide +kernel) (pa_cons (pv 2) pa_nil)) (pe_op op_pow pe_int pe_int)))
      (pss_cons (ps_set (i := 4) scDice.nd rfl (.inl rfl) (pe_callB (call_max2 rfl) (by rfl) T.max (by decide +kernel) (pa_cons pe_int (pa_cons (pe_op op_sub (pe_callB call_abs (by rfl) T.abs (by decide +kernel) (pa_cons (pv 2) pa_nil)) (pe_op op_pow pe_int pe_int)) pa_nil))))
      (pss_one (ps_ret (pe_lst (pa_cons (pe_op op_modN (pv 4) (pe_op op_mulW (pe_op op_pow pe_int pe_int) (pe_op op_pow pe_int pe_int)))
        (pa_cons (pe_op op_add (pe_op op_add (pe_op op_add (pe_op op_mul (pe_op op_mod (pv 3) pe_int) pe_int) (pe_op op_mul pe_int (pv 1)))
          (pe_op op_mul pe_int (pe_callTy call_int1 (by rfl) T.int (by decide +kernel) (pa_cons (pe_cmpR op_lt (pv 2) pe_int (nomark _)) pa_nil)))) pe_int) (pa_cons pe_int pa_nil)))))))), ?_⟩
    refine ⟨_, rfl, _, rfl, a, _, rfl, .inl hS, _, _, rfl, rfl, _, rfl, ?_⟩
    refine ite2 (fun c => ?_) (fun c => ?_)
    · have hlt : i < ns.length := by
        have c' := of_decide_eq_true c
        rw [List.length_map] at c'
        omega
      have g : (ns.map V.int)[i]? = some (.int ns[i]) := by
        rw [List.getElem?_map, List.getElem?_eq_getElem hlt]
        rfl
      refine ⟨_, rfl, _, rfl, a, _, _, _, rfl, rfl, hS, atI_nat g, .inl ⟨_, rfl, ?_⟩⟩
      refine ⟨_, rfl, _, rfl, 10, 59, rfl, rfl, c10 (k := 59) (by decide), _, _, rfl, rfl, (by dsimp only; decide +kernel), ?_⟩
      refine ⟨_, rfl, _, rfl, 10, 17, rfl, rfl, c10 (k := 17) (by decide), _, _, rfl, rfl, _, _, rfl, ?_⟩
      refine ⟨_, rfl, 10, 60, rfl, rfl, c10 (k := 60) (by decide), 10, 60, rfl, rfl, c10 (k := 60) (by decide), _, _, rfl, rfl, wide_mul (a := 400) (b := 400) (by decide +kernel) (by decide +kernel) (by decide) (by decide) (by decide), _, _, rfl, rfl, (by dsimp only; decide +kernel), ?_⟩
      refine ⟨_, rfl, _, _, rfl, rfl, (by dsimp only; decide), _, _, rfl, rfl, .inr ⟨by decide, by decide⟩, _, rfl, _, _, rfl, rfl, .inl ⟨by decide, by decide⟩, _, _, rfl, rfl, _, rfl, _, _, rfl, rfl, .inr ⟨_, rfl, ?_⟩⟩
      refine ⟨_, _, rfl, rfl, .inl ⟨by decide, by decide⟩, _, _, rfl, rfl, _, _, rfl, rfl, (by show 3 ≤ sizeLine; decide), fun d hd => ?_⟩
      refine k d _ hd (Same.new hd) ⟨⟨_, _, 0, upd_same, ?_⟩, by decide⟩
      refine dice_end _ _ _ hi ?_
      split <;> omega
    · refine ⟨_, rfl, _, _, rfl, rfl, .inl ⟨by decide, by decide⟩, _, _, rfl, rfl, ?_⟩
      refine ⟨_, rfl, _, rfl, 10, 59, rfl, rfl, c10 (k := 59) (by decide), _, _, rfl, rfl, (by dsimp only; decide +kernel), ?_⟩
      refine ⟨_, rfl, _, rfl, 10, 17, rfl, rfl, c10 (k := 17) (by decide), _, _, rfl, rfl, _, _, rfl, ?_⟩
      refine ⟨_, rfl, 10, 60, rfl, rfl, c10 (k := 60) (by decide), 10, 60, rfl, rfl, c10 (k := 60) (by decide), _, _, rfl, rfl, wide_mul (a := 400) (b := 400) (by decide +kernel) (by decide +kernel) (by decide) (by decide) (by decide), _, _, rfl, rfl, (by dsimp only; decide +kernel), ?_⟩
      refine ⟨_, rfl, _, _, rfl, rfl, (by dsimp only; decide), _, _, rfl, rfl, .inr ⟨by decide, by decide⟩, _, rfl, _, _, rfl, rfl, .inl ⟨by decide, by decide⟩, _, _, rfl, rfl, _, rfl, _, _, rfl, rfl, .inr ⟨_, rfl, ?_⟩⟩
      refine ⟨_, _, rfl, rfl, .inl ⟨by decide, by decide⟩, _, _, rfl, rfl, _, _, rfl, rfl, (by show 3 ≤ sizeLine; decide), fun d hd => ?_⟩
      refine k d _ hd (Same.new hd) ⟨⟨_, _, 0, upd_same, ?_⟩, by decide⟩
      refine dice_end _ _ _ hi ?_
      split <;> omega
end
end Pr
namespace Pr
open PySem PySem.Spec PyProof.Rows L2
theorem div_le {x t : Int} (h0 : 0 ≤ x) (ht : 0 < t) : 0 ≤ x / t ∧ x / t ≤ x := ⟨Int.ediv_nonneg h0 (by omega), Int.ediv_le_self _ h0⟩
theorem mod2 {x y : Int} (h : 0 ≤ x) (a : 0 < y) : 0 ≤ x.fmod y ∧ x.fmod y < y := fmod_pos a
section
variable {P : Program} {w : World} {K : PySem.W.Frag} {mg : Str → Option Value} {base : Heap}
theorem scRoll : FnScope ["dice", "total", "found", "one", "two"] ["dice", "total"] (defScope sRoll) := ⟨rfl, rfl, rfl, by decide +kernel, rfl, by decide +kernel, by decide +kernel⟩
theorem ok_roll {f : Addr} {fd : FuncData} (F : Fun K "_law_roll" "_law_roll" sRoll f fd) (T : Free mg) : FnOk P w K mg base CX0 1 f fd ["dice", "total"] spRoll := by
  refine F.ok scRoll (fun vs H Q E h => ?_) (fun cdv A outer s H vs Q E hr h => ?_)
  · obtain ⟨d, t, n, rfl, _⟩ := h
    rfl
  · obtain ⟨d, t, n, rfl, ⟨⟨x, y, c, e, x0, x1, y0, y1, c0, c1⟩, fw⟩, hn, t0, t1, k⟩ := h
    have sq : SqL K H d [.int x, .int y, .int c] := SqL.of e
    refine ⟨_, pss_cons (ps_if (pt_cmpR op_gt (pe_ix ix_list (pv 0) pe_int (fun _ _ => rfl)) pe_int (nomark _))
        (pss_cons (ps_set (i := 2) scRoll.nd rfl (.inl rfl) (pe_op op_modN (pe_callTy call_int1 (by rfl) T.int (by decide +kernel) (pa_cons (pe_ix ix_list (pv 0) pe_int (fun _ _ => rfl)) pa_nil)) (pv 1)))
        (pss_cons (ps_asg (pe_op op_fdivW (pe_ix ix_list (pv 0) pe_int (fun _ _ => rfl)) (pv 1)) (pg_sub (pv 0) pe_int set_list))
        (pss_one (ps_ret (pv 2))))) pss_nil)
      (pss_cons (ps_asg (pe_op op_add (pe_ix ix_list (pv 0) pe_int (fun _ _ => rfl)) pe_int) (pg_sub (pv 0) pe_int set_list))
      (pss_cons (ps_set (i := 3) scRoll.nd rfl (.inl rfl) (pe_op op_mod (pe_callTy call_int1 (by rfl) T.int (by decide +kernel)
        (pa_cons (pe_op op_add (pe_ix ix_list (pv 0) pe_int (fun _ _ => rfl)) (pe_op op_mul pe_int (pe_ix ix_list (pv 0) pe_int (fun _ _ => rfl)))) pa_nil)) pe_int))
      (pss_cons (ps_set (i := 4) scRoll.nd rfl (.inl rfl) (pe_op op_add (pe_op op_mul (pe_op op_mod (pe_callTy call_int1 (by rfl) T.int (by decide +kernel)
        (pa_cons (pe_op op_add (pe_op op_mul (pv 3) (pv 3)) (pe_op op_mul pe_int (pe_ix ix_list (pv 0) pe_int (fun _ _ => rfl)))) pa_nil)) pe_int) pe_int) (pv 3)))
      (pss_one (ps_ret (pe_op op_modN (pe_callTy call_int1 (by rfl) T.int (by decide +kernel) (pa_cons (pe_op op_fdiv (pv 4) pe_int) pa_nil)) (pv 1))))))), ?_⟩
    refine ⟨_, rfl, d, _, 0, _, rfl, rfl, sq, rfl, _, _, rfl, rfl, _, rfl, ite2 (fun cx => ?_) (fun cx => ?_)⟩
    · -- what is left of the cell's number
      have r := fmod_pos (i := x) t0
      have q := div_le x0 t0
      refine ⟨_, rfl, d, _, 0, _, rfl, rfl, sq, rfl, .inl ⟨_, rfl, _, rfl, _, _, rfl, rfl, (by dsimp only; omega), ?_⟩⟩
      refine ⟨_, rfl, d, _, 0, _, rfl, rfl, sq, rfl, _, rfl, _, _, rfl, rfl, wide_div (b := 400) t0 (by omega) (by decide) (by decide), _, rfl, d, _, 0, 0, rfl, rfl, e, rfl, _, rfl, ?_⟩
      exact k _ _ r.1 r.2 ⟨⟨_, _, _, upd_same, q.1, by omega, y0, y1, c0, by omega⟩, by omega⟩
    · refine ⟨_, rfl, d, _, 2, _, rfl, rfl, sq, rfl, _, _, rfl, rfl, _, rfl, d, _, 2, 2, rfl, rfl, e, rfl, ?_⟩
      have sq2 : SqL K (upd H d (.lst [.int x, .int y, .int (c + 1)])) d [.int x, .int y, .int (c + 1)] := SqL.of upd_same
      have m1 := emod_pos (i := y + 7901 * (c + 1)) (j := 2305843009213693907) (by decide)
      refine ⟨_, rfl, d, _, 1, _, rfl, rfl, sq2, rfl, _, rfl, d, _, 2, _, rfl, rfl, sq2, rfl, _, _, rfl, rfl, .inl ⟨by decide, by decide⟩, _, _, rfl, rfl, .inl ⟨_, rfl, _, _, rfl, rfl, (by dsimp only; decide), ?_⟩⟩
      have m2 := emod_pos (i := (y + 7901 * (c + 1)) % 2305843009213693907 * ((y + 7901 * (c + 1)) % 2305843009213693907) + 71 * (c + 1)) (j := 2305843009213693921) (by decide)
      refine ⟨_, rfl, _, rfl, _, _, rfl, rfl, .inl ⟨by omega, by omega⟩, _, rfl, d, _, 2, _, rfl, rfl, sq2, rfl, _, _, rfl, rfl, .inl ⟨by decide, by decide⟩, _, _, rfl, rfl, .inl ⟨_, rfl, _, _, rfl, rfl, (by dsimp only; decide), ?_⟩⟩
      refine ⟨_, _, rfl, rfl, .inl ⟨by omega, by omega⟩, _, rfl, _, _, rfl, rfl, ?_⟩
      refine ⟨_, rfl, _, _, rfl, rfl, ⟨by decide, by decide⟩, .inl ⟨_, rfl, _, rfl, _, _, rfl, rfl, (by dsimp only; omega), ?_⟩⟩
      exact k _ _ (fmod_pos t0).1 (fmod_pos t0).2 ⟨⟨_, _, _, upd_same, x0, x1, y0, y1, by omega, by omega⟩, by omega⟩
end
end Pr
namespace Pr
open PySem PySem.Spec PyProof.Rows L2
/-- the law's drawing defs, as they stand behind the top -/
structure Draws (K : PySem.W.Frag) (mg : Str → Option Value) (fR fP fM : Addr) (dR dP dM : FuncData) : Prop where
  FR : Fun K "_law_roll" "_law_roll" sRoll fR dR
  bR : Binds K dR ["dice", "total"] []
  gR : mg "_law_roll" = some (.ref fR)
  FP : Fun K "_law_pick" "_law_pick" sPick fP dP
  bP : Binds K dP ["dice", "items"] []
  gP : mg "_law_pick" = some (.ref fP)
  FM : Fun K "_law_mixed" "_law_mixed" sMixed fM dM
  bM : Binds K dM ["dice", "items"] []
  gM : mg "_law_mixed" = some (.ref fM)
theorem erase_perm {α : Type} : ∀ (l : List α) (i : Nat) (h : i < l.length), (l[i] :: l.eraseIdx i).Perm l
  | [], _, h => absurd h (Nat.not_lt_zero _)
  | a :: l, 0, _ => List.Perm.refl _
  | a :: l, i + 1, h => (List.Perm.swap a (l[i]'(Nat.lt_of_succ_lt_succ h)) (l.eraseIdx i)).trans (List.Perm.cons a (erase_perm l i (Nat.lt_of_succ_lt_succ h)))
section
variable {P : Program} {w : World} {K : PySem.W.Frag} {mg : Str → Option Value} {base : Heap} {fR fP fM : Addr} {dR dP dM : FuncData}
theorem scPick : FnScope ["dice", "items"] ["dice", "items"] (defScope sPick) := ⟨rfl, rfl, rfl, by decide +kernel, rfl, by decide +kernel, by decide +kernel⟩
theorem ok_pick (D : Draws K mg fR fP fM dR dP dM) (T : Free mg) : FnOk P w K mg base CX0 2 fP dP ["dice", "items"] (spPick K) := by
  have GR : FnOk P w K mg base CX0 1 fR dR ["dice", "total"] spRoll := ok_roll D.FR T
  refine D.FP.ok scPick (fun vs H Q E h => ?_) (fun cdv A outer s H vs Q E hr h => ?_)
  · obtain ⟨d, p, n, xs, rfl, _⟩ := h
    rfl
  · obtain ⟨d, p, n, xs, rfl, npd, hS, ne, few, di, hn, k⟩ := h
    refine ⟨_, pss_one (ps_ret (pe_ix ix_seq (pv 1) (pe_call GR hr (by rfl) D.gR D.FR.kp D.bR .nil pass0 (pa_cons (pv 0) (pa_cons (pe_callB call_len_seq (by rfl) T.len PySem.boot_len (pa_cons (pv 1) pa_nil)) pa_nil))) (fun _ _ => rfl))), ?_⟩
    have pos : 0 < xs.length := List.length_pos_iff.mpr ne
    refine ⟨_, rfl, _, rfl, _, rfl, p, xs, rfl, hS, d, _, n, rfl, di, hn, by omega, by omega, fun r o r0 r1 di' => ?_⟩
    have hlt : r.toNat < xs.length := by omega
    have g : atI xs r = some xs[r.toNat] := at_of (j := r.toNat) (by omega) (List.getElem?_eq_getElem hlt)
    have kp : Kp d H (upd H d o) := Kp.upd
    rcases hS with hS | hS
    · exact .inl ⟨p, xs, r, _, rfl, rfl, kp.seq npd hS, g, k _ o (List.getElem_mem hlt) di'⟩
    · have hT : SqT K (upd H d o) p xs := by
        rcases hS with (h | ⟨u, h⟩) | h
        · exact .inl (.inl (kp _ _ npd h))
        · exact .inl (.inr ⟨u, kp _ _ npd h⟩)
        · exact .inr h
      exact .inr (.inl ⟨p, xs, r, _, rfl, rfl, hT, g, k _ o (List.getElem_mem hlt) di'⟩)
theorem scMixed : FnScope ["dice", "items", "left", "found", "turn"] ["dice", "items"] (defScope sMixed) := ⟨rfl, rfl, rfl, by decide +kernel, rfl, by decide +kernel, by decide +kernel⟩
theorem ok_mixed (D : Draws K mg fR fP fM dR dP dM) (T : Free mg) : FnOk P w K mg base CX0 2 fM dM ["dice", "items"] (spMixed K) := by
  have GR : FnOk P w K mg base CX0 1 fR dR ["dice", "total"] spRoll := ok_roll D.FR T
  refine D.FM.ok scMixed (fun vs H Q E h => ?_) (fun cdv A outer s H vs Q E hr h => ?_)
  · obtain ⟨d, p, n, xs, rfl, _⟩ := h
    rfl
  · obtain ⟨d, p, n, xs, rfl, npd, hS, few, di, hn, k⟩ := h
    refine ⟨_, pss_cons (ps_par (i := 2) (j := 3) (by rfl) scMixed.nd rfl rfl (by decide) rfl rfl (pa_cons (pe_callTy call_list_of (by rfl) T.list (by decide +kernel) (pa_cons (pv 1) pa_nil)) (pa_cons (pe_lst pa_nil) pa_nil)) (by rfl))
      (pss_cons (ps_for PassesOwn.never rfl (pi_range1 rfl T.range (pa_cons (pe_callB call_len_seq (by rfl) T.len PySem.boot_len (pa_cons (pv 1) pa_nil)) pa_nil)) (pg_name (i := 4) scMixed.nd rfl (.inl rfl))
        (pss_one (ps_expr (pe_bm PySem.F.plainAttrs_list PySem.F.slot_list_append PySem.F.type_list_append mt_append (pv 3)
          (pa_cons (pe_bm PySem.F.plainAttrs_list PySem.F.slot_list_pop PySem.F.type_list_pop mt_popAt (pv 2)
            (pa_cons (pe_call GR hr (by rfl) D.gR D.FR.kp D.bR .nil pass0 (pa_cons (pv 0) (pa_cons (pe_callB call_len_seq (by rfl) T.len PySem.boot_len (pa_cons (pv 2) pa_nil)) pa_nil))) pa_nil)) pa_nil)))))
      (pss_one (ps_ret (pv 3)))), ?_⟩
    obtain ⟨ds, hd⟩ := di.there
    -- left = list(items); found = []
    refine ⟨_, rfl, p, xs, rfl, .inl hS, fun l nl => ⟨Nat.zero_le _, fun q nq => ?_⟩⟩
    refine ⟨_, _, rfl, ?_⟩
    have ndl : d ≠ l := ne_of_none hd nl
    have nql : q ≠ l := fun e => by
      rw [e, upd_same] at nq
      cases nq
    have nHq : H q = none := by
      rw [upd_ne nql] at nq
      exact nq
    have ndq : d ≠ q := ne_of_none hd nHq
    have s1 : Same H (upd (upd H l (.lst xs)) q (.lst [])) := (Same.new nl).trans (Same.new nq)
    have hS1 := s1.seq hS
    -- the loop
    refine ⟨_, rfl, p, xs, rfl, .inl hS1, xs.length, rfl, by omega, by omega, ?_⟩
    refine for_range (lo := 0) (n := ((xs.length : Int)).toNat) (fun i σ H' => ∃ (v : Option V) (rem done : List V), σ = [some (.ref d), some (.ref p), some (.ref l), some (.ref q), v] ∧ Kp d H H' ∧
      H' l = some (.lst rem) ∧ H' q = some (.lst done) ∧ rem.length + i = xs.length ∧ (done ++ rem).Perm xs ∧ Dice H' d (n + i))
      ⟨none, xs, [], rfl, Kp.same s1, by rw [upd_ne nql.symm, upd_same], upd_same, by omega, List.Perm.refl _, di.same s1⟩ ?_ ?_
    · rintro i σ H' hi ⟨v, rem, done, rfl, kp, hl, hq, len, pm, di'⟩
      have hi' : i < xs.length := by omega
      have dl : done.length = i := by
        have := pm.length_eq
        rw [List.length_append] at this
        omega
      refine ⟨_, rfl, .inl ⟨rfl, _, SqL.of hq⟩, _, rfl, .inl ⟨rfl, _, SqL.of hl⟩, _, rfl, _, rfl, l, rem, rfl, .inl (SqL.of hl), d, _, n + i, rfl, di', by omega, by omega, by omega, fun r o r0 r1 di2 => ?_⟩
      have hlt : r.toNat < rem.length := by omega
      have k2 : Kp d H' (upd H' d o) := Kp.upd
      have hl2 := k2 _ _ ndl.symm hl
      have hq2 := k2 _ _ ndq.symm hq
      refine ⟨l, rem, r, r.toNat, rem[r.toNat], rfl, rfl, hl2, by omega, by omega, seqIndex_of r0 (by omega), List.getElem?_eq_getElem hlt, ?_⟩
      have hq3 : (upd (upd H' d o) l (.lst (rem.eraseIdx r.toNat))) q = some (.lst done) := by
        rw [upd_ne nql]
        exact hq2
      refine ⟨q, done, _, rfl, rfl, hq3, small1000 (by omega), ?_⟩
      refine ⟨_, rem.eraseIdx r.toNat, _, rfl, fun b u nb e => ?_, ?_, upd_same, ?_, ?_, ?_⟩
      · rw [upd_ne (ne_of_none e nHq), upd_ne (ne_of_none e nl)]
        exact k2 _ _ nb (kp _ _ nb e)
      · rw [upd_ne nql.symm, upd_same]
      · rw [List.length_eraseIdx_of_lt hlt]
        omega
      · have e1 := erase_perm rem r.toNat hlt
        rw [List.append_assoc]
        exact (List.Perm.append_left done e1).trans pm
      · refine (di2.kept fun u e => ?_).more (by omega) (by omega)
        rw [upd_ne ndq, upd_ne ndl]
        exact e
    · rintro σ H' ⟨v, rem, done, rfl, kp, hl, hq, len, pm, di'⟩
      have e0 : rem = [] := List.length_eq_zero_iff.mp (by omega)
      subst e0
      rw [List.append_nil] at pm
      refine ⟨_, rfl, k q done H' ndq.symm nHq kp hq pm (di'.more (by omega) (by omega))⟩
end
end Pr
namespace Pr
open PySem PySem.Spec PyProof.Rows L2 Gd
/-! ### values that can be judged and shown -/
/-- the heap without the dice -/
def Hm (d : Addr) (H : Hp) : Hp := fun b => if b = d then none else H b
theorem Hm.some_of {d b : Addr} {H : Hp} {o : HO} (h : Hm d H b = some o) : H b = some o ∧ b ≠ d := by
  unfold Hm at h
  by_cases e : b = d
  · rw [if_pos e] at h
    cases h
  · rw [if_neg e] at h
    exact ⟨h, e⟩
theorem Hm.of {d b : Addr} {H : Hp} {o : HO} (h : H b = some o) (e : b ≠ d) : Hm d H b = some o := by
  unfold Hm
  rw [if_neg e]
  exact h
theorem Kp.hm {d : Addr} {H H' : Hp} (k : Kp d H H') : Same (Hm d H) (Hm d H') := fun b o h => Hm.of (k b o (Hm.some_of h).2 (Hm.some_of h).1) (Hm.some_of h).2
/-- the type of a value that is no instance -/
inductive Kd (H : Hp) : V → String → Prop where
  | non : Kd H .non "NoneType"
  | bl (b : Bool) : Kd H (.bl b) "bool"
  | int (i : Int) : Kd H (.int i) "int"
  | str (z : Str) : Kd H (.str z) "str"
  | lst {a : Addr} {xs : List V} (e : H a = some (.lst xs)) : Kd H (.ref a) "list"
  | tup {a : Addr} {xs : List V} (e : H a = some (.tup xs)) : Kd H (.ref a) "tuple"
  | dK {a : Addr} {kvs : List (Key × V)} (e : H a = some (.dK kvs)) : Kd H (.ref a) "dict"
theorem Kd.same {H H' : Hp} {v : V} {t : String} (k : Kd H v t) (s : Same H H') : Kd H' v t := by
  cases k with
  | non => exact .non
  | bl b => exact .bl b
  | int i => exact .int i
  | str z => exact .str z
  | lst e => exact .lst (s _ _ e)
  | tup e => exact .tup (s _ _ e)
  | dK e => exact .dK (s _ _ e)
theorem Sh.more {H : Hp} : ∀ (n : Nat) (v : V) (t : Str), Sh H n v t → Sh H (n + 1) v t
  | 0, _, _, h => .inl h
  | n + 1, _, _, h => by
    rcases h with h | ⟨a, xs, ts, rfl, e, p, rfl⟩ | ⟨a, xs, ts, rfl, e, p, rfl⟩ | ⟨a, xs, ts, rfl, e, p, rfl⟩
    · exact .inl h
    · exact Sh.lst e (L2.Paired.mapP p fun x t q => Sh.more n x t q)
    · exact Sh.tup e (L2.Paired.mapP p fun x t q => Sh.more n x t q)
    · exact Sh.dK e (L2.Paired.mapP p fun x t q => ⟨q.1, Sh.more n x.2 t q.2⟩)
theorem Sh.le {H : Hp} {n m : Nat} {v : V} {t : Str} (h : n ≤ m) (s : Sh H n v t) : Sh H m v t := by
  induction h with
  | refl => exact s
  | step _ ih => exact Sh.more _ _ _ ih
/-- a value: its type, its text, what it holds if it is a tuple -/
structure Vd (H : Hp) (n m : Nat) (v : V) : Prop where
  kd : ∃ t, Kd H v t
  sm : ∃ t, Sh H n v t ∧ t.length ≤ m
  str : ∀ z, v = .str z → z.length ≤ 1000000
  items : ∀ a xs, v = .ref a → H a = some (.tup xs) → xs.length ≤ 1000 ∧ ∀ x ∈ xs, (∃ t, Kd H x t) ∧ ∀ z, x = .str z → z.length ≤ 1000000
theorem Vd.le {H : Hp} {n m n' m' : Nat} {v : V} (h : Vd H n m v) (a : n ≤ n') (b : m ≤ m') : Vd H n' m' v :=
  ⟨h.kd, let ⟨t, s, l⟩ := h.sm; ⟨t, Sh.le a s, by omega⟩, h.str, h.items⟩
theorem Vd.same {H H' : Hp} {n m : Nat} {v : V} (h : Vd H n m v) (s : Same H H') : Vd H' n m v := by
  obtain ⟨t, hk⟩ := h.kd
  refine ⟨⟨t, hk.same s⟩, let ⟨t, q, l⟩ := h.sm; ⟨t, Sh.keep s n v t q, l⟩, h.str, fun a xs e q => ?_⟩
  subst e
  cases hk with
  | lst e =>
    rw [s _ _ e] at q
    cases q
  | tup e =>
    have q' := q
    rw [s _ _ e] at q'
    cases q'
    obtain ⟨l, k⟩ := h.items a xs rfl e
    exact ⟨l, fun x m => let ⟨⟨t, kt⟩, z⟩ := k x m; ⟨⟨t, kt.same s⟩, z⟩⟩
  | dK e =>
    rw [s _ _ e] at q
    cases q
theorem Vd.non {H : Hp} : Vd H 0 2000 .non := ⟨⟨_, .non⟩, ⟨_, Sc.non, by decide⟩, fun z e => (nomatch e), fun a xs e => (nomatch e)⟩
theorem Vd.bl {H : Hp} (b : Bool) : Vd H 0 2000 (.bl b) := ⟨⟨_, .bl b⟩, ⟨_, Sc.bl b, by cases b <;> decide⟩, fun z e => (nomatch e), fun a xs e => (nomatch e)⟩
theorem Vd.int {H : Hp} (i : Int) (h : i.natAbs < 2 ^ 1900) : Vd H 0 2000 (.int i) := by
  have hl : i.natAbs.log2 < 1920 := Nat.lt_of_lt_of_le (PySem.Flt.log2_lt_of (by decide) h) (by decide)
  refine ⟨⟨_, .int i⟩, ⟨_, Sc.int i hl, ?_⟩, fun z e => (nomatch e), fun a xs e => (nomatch e)⟩
  exact Nat.le_trans (PyProof.Rows.int_text_len_1921 hl) (by decide)
/-- a text of at most m signs -/
def SOk (m : Nat) (z : Str) : Prop := z.length ≤ m ∧ ∀ c ∈ z.cps.toList, c < 16 ^ 8
theorem SOk.le {m n : Nat} {z : Str} (h : SOk m z) (l : m ≤ n) : SOk n z := ⟨by have := h.1; omega, h.2⟩
theorem Vd.text {H : Hp} {k : Nat} {z : Str} (h : SOk k z) (hk : k ≤ 100000) : Vd H 0 (10 * k + 2) (.str z) := by
  have l := StrLaws.reprText_len z h.2
  have l2 := h.1
  refine ⟨⟨_, .str z⟩, ⟨_, Sc.str z (by rw [sizeLine_eq]; omega), by omega⟩, fun y e => ?_, fun a xs e => (nomatch e)⟩
  cases e
  omega
theorem paired_of {H : Hp} {n m : Nat} : ∀ {xs : List V}, (∀ x ∈ xs, Vd H n m x) → ∃ ts, Paired (Sh H n) xs ts ∧ (ts.map (·.length)).sum ≤ xs.length * m ∧ ts.length = xs.length
  | [], _ => ⟨[], .nil, by simp, rfl⟩
  | x :: xs, h => by
    obtain ⟨ts, p, s, l⟩ := paired_of (xs := xs) fun y m => h y (List.mem_cons_of_mem _ m)
    obtain ⟨t, q, lt⟩ := (h x List.mem_cons_self).sm
    refine ⟨t :: ts, .cons q p, ?_, by simp [l]⟩
    rw [List.map_cons, List.sum_cons, List.length_cons, Nat.succ_mul]
    omega
theorem Vd.lst {H : Hp} {n m k : Nat} {a : Addr} {xs : List V} (e : H a = some (.lst xs)) (h : ∀ x ∈ xs, Vd H n m x) (hl : xs.length ≤ k) : Vd H (n + 1) (k * (m + 2) + 3) (.ref a) := by
  obtain ⟨ts, p, s, l⟩ := paired_of h
  refine ⟨⟨_, .lst e⟩, ⟨_, Sh.lst e p, ?_⟩, fun z e => (nomatch e), fun b ys eb q => ?_⟩
  · have := listText_len_le ts
    have h2 : xs.length * (m + 2) ≤ k * (m + 2) := Nat.mul_le_mul_right _ hl
    rw [Nat.mul_add] at h2
    omega
  · cases eb
    rw [e] at q
    cases q
theorem Vd.tup {H : Hp} {n m k : Nat} {a : Addr} {xs : List V} (e : H a = some (.tup xs)) (h : ∀ x ∈ xs, Vd H n m x) (hl : xs.length ≤ k) (hk : k ≤ 1000) : Vd H (n + 1) (k * (m + 2) + 3) (.ref a) := by
  obtain ⟨ts, p, s, l⟩ := paired_of h
  refine ⟨⟨_, .tup e⟩, ⟨_, Sh.tup e p, ?_⟩, fun z e => (nomatch e), fun b ys eb q => ?_⟩
  · have := tupleText_len_le ts
    have h2 : xs.length * (m + 2) ≤ k * (m + 2) := Nat.mul_le_mul_right _ hl
    rw [Nat.mul_add] at h2
    omega
  · cases eb
    rw [e] at q
    cases q
    exact ⟨by omega, fun x m => ⟨(h x m).kd, (h x m).str⟩⟩
theorem Vd.dK0 {H : Hp} {a : Addr} (e : H a = some (.dK [])) : Vd H 1 2000 (.ref a) := by
  refine ⟨⟨_, .dK e⟩, ⟨_, Sh.dK e .nil, by decide +kernel⟩, fun z e => (nomatch e), fun b ys eb q => ?_⟩
  cases eb
  rw [e] at q
  cases q
theorem Vd.dK1 {H : Hp} {a : Addr} {x : Str} {i : Int} (e : H a = some (.dK [(.inr x, .int i)])) (hx : SOk 10 x) (hi : i.natAbs.log2 < 1920) : Vd H 1 3000 (.ref a) := by
  have l := StrLaws.reprText_len x hx.2
  have l2 := hx.1
  have l3 := PyProof.Rows.int_text_len_1921 hi
  refine ⟨⟨_, .dK e⟩, ⟨_, Sh.dK (n := 0) (ts := [((toString i : String) : Str)]) e (.cons ⟨by show (reprText x).length ≤ sizeLine; rw [sizeLine_eq]; omega, Sc.int i hi⟩ .nil), ?_⟩, fun z e => (nomatch e), fun b ys eb q => ?_⟩
  · have h := dictText_len_le (List.zipWith (fun (p : Key × V) t => keyText p.1 ++ ": " ++ t) [((.inr x : Key), V.int i)] [((toString i : String) : Str)])
    have e2 : ((keyText (.inr x) ++ ": " ++ ((toString i : String) : Str)) : Str).length = (reprText x).length + 2 + ((toString i : String) : Str).length := by
      rw [strLen_append, strLen_append]
      rfl
    have e3 : (List.zipWith (fun (p : Key × V) t => keyText p.1 ++ ": " ++ t) [((.inr x : Key), V.int i)] [((toString i : String) : Str)]) = [keyText (.inr x) ++ ": " ++ ((toString i : String) : Str)] := rfl
    rw [e3] at h ⊢
    rw [List.map_cons, List.map_nil, List.sum_cons, List.sum_nil, e2, List.length_singleton] at h
    omega
  · cases eb
    rw [e] at q
    cases q
end Pr
namespace Pr
open PySem PySem.Spec PyProof.Rows L2 Gd
/-! ### drawn operators -/
def pool : List Str := ["c", "v", "p", "s", "add", "operator", "aa", "z", "op", "goal"]
/-- names with arities, as a dict -/
def dkv (l : List (Str × Nat)) : List (Key × V) := l.map fun p => (.inr p.1, .int (p.2 : Int))
structure Ars (l : List (Str × Nat)) : Prop where
  few : 1 ≤ l.length ∧ l.length ≤ 4
  nd : (l.map (·.1)).Nodup
  pool : ∀ p ∈ l, p.1 ∈ pool
  two : ∀ p ∈ l, p.2 ≤ 2
  const : ∃ p ∈ l, p.2 = 0
theorem Ars.perm {l l' : List (Str × Nat)} (h : Ars l) (p : l'.Perm l) : Ars l' :=
  ⟨by rw [p.length_eq]; exact h.few, (p.map _).nodup_iff.mpr h.nd, fun x m => h.pool x (p.mem_iff.mp m), fun x m => h.two x (p.mem_iff.mp m), let ⟨x, m, e⟩ := h.const; ⟨x, p.mem_iff.mpr m, e⟩⟩
theorem val_none {z : Str} : ∀ {l : List (Str × Nat)}, z ∉ l.map (·.1) → valV (dkv l) (.inr z : Key) = none
  | [], _ => rfl
  | p :: l, h => by
    show valV ((.inr p.1, .int (p.2 : Int)) :: dkv l) (.inr z : Key) = none
    rw [valV_neg (fun e => h (by
      have e' : p.1 = z := Sum.inr.inj e
      rw [← e']
      exact List.mem_cons_self))]
    exact val_none fun m => h (List.mem_cons_of_mem _ m)
theorem put_end {l : List (Str × Nat)} {z : Str} {k : Nat} (h : z ∉ l.map (·.1)) : putK (dkv l) (.inr z) (.int (k : Int)) = dkv (l ++ [(z, k)]) := by
  rw [putK_new _ (val_none h)]
  unfold dkv
  rw [List.map_append]
  rfl
theorem merge_end : ∀ (l2 l : List (Str × Nat)), ((l ++ l2).map (·.1)).Nodup → mergeK (dkv l) (dkv l2) = dkv (l ++ l2)
  | [], l, _ => by rw [List.append_nil]; rfl
  | (z, k) :: l2, l, h => by
    have n : z ∉ l.map (·.1) := by
      rw [List.map_append, List.nodup_append] at h
      exact fun m => h.2.2 z m z (by simp) rfl
    show mergeK (putK (dkv l) (.inr z) (.int (k : Int))) (dkv l2) = _
    rw [put_end n, merge_end l2 (l ++ [(z, k)]) (by rw [List.append_assoc]; exact h), List.append_assoc]
    rfl
theorem merge_all {l : List (Str × Nat)} (h : (l.map (·.1)).Nodup) : mergeK [] (dkv l) = dkv l := merge_end l [] h
theorem paired_perm {α β : Type} {F : α → β → Prop} {xs ys : List α} (p : xs.Perm ys) : ∀ {bs : List β}, Paired F ys bs → ∃ cs, cs.Perm bs ∧ Paired F xs cs := by
  induction p with
  | nil => exact fun {bs} h => ⟨bs, .refl _, h⟩
  | cons a p ih =>
    intro bs h
    cases h with
    | cons h r =>
      obtain ⟨cs, q, k⟩ := ih r
      exact ⟨_, q.cons _, .cons h k⟩
  | swap a b l =>
    intro bs h
    cases h with
    | cons h r =>
      cases r with
      | cons k r => exact ⟨_, .swap _ _ _, .cons k (.cons h r)⟩
  | trans p q ih1 ih2 =>
    intro bs h
    obtain ⟨cs, q1, k1⟩ := ih2 h
    obtain ⟨ds, q2, k2⟩ := ih1 k1
    exact ⟨ds, q2.trans q1, k2⟩
theorem paired_of_map {α β : Type} (g : β → α) : ∀ l : List β, Paired (fun a b => a = g b) (l.map g) l
  | [] => .nil
  | _ :: l => .cons rfl (paired_of_map g l)
theorem map_of_paired {α β : Type} {g : β → α} : ∀ {xs : List α} {l : List β}, Paired (fun a b => a = g b) xs l → xs = l.map g
  | _, _, .nil => rfl
  | _, _, .cons h r => by rw [h, map_of_paired r]; rfl
theorem perm_map {α β : Type} {g : β → α} {xs : List α} {l : List β} (p : xs.Perm (l.map g)) : ∃ l' : List β, l'.Perm l ∧ xs = l'.map g := by
  obtain ⟨l', q, k⟩ := paired_perm p (paired_of_map g l)
  exact ⟨l', q, map_of_paired k⟩
theorem Kp.free {d b : Addr} {H H' : Hp} (k : Kp d H H') (n : b ≠ d) (h : H' b = none) : H b = none := by
  cases e : H b with
  | none => rfl
  | some o =>
    rw [k b o n e] at h
    cases h
theorem paired_and {α β : Type} {F : α → β → Prop} {P : α → Prop} : ∀ {xs : List α} {ys : List β}, (∀ a ∈ xs, P a) → Paired F xs ys → Paired (fun a b => P a ∧ F a b) xs ys
  | _, _, _, .nil => .nil
  | _, _, h, .cons k r => .cons ⟨h _ List.mem_cons_self, k⟩ (paired_and (fun a m => h a (List.mem_cons_of_mem _ m)) r)
theorem paired_map {α β : Type} {F G : α → β → Prop} (k : ∀ a b, F a b → G a b) : ∀ {xs : List α} {ys : List β}, Paired F xs ys → Paired G xs ys
  | _, _, .nil => .nil
  | _, _, .cons h r => .cons (k _ _ h) (paired_map k r)
theorem cut_one {x : V} {xs : List V} {r : Int} (h0 : 0 ≤ r) (h1 : r.toNat ≤ xs.length) : cutV (x :: xs) (some 1) (some (1 + r)) = xs.take r.toNat := by
  have a1 : HT.sIx (x :: xs).length 0 (some 1) = 1 := by
    simp [HT.sIx]
  have a2 : HT.sIx (x :: xs).length (x :: xs).length (some (1 + r)) = 1 + r.toNat := by
    show (if 1 + r < 0 then (1 + r + ((xs.length + 1 : Nat) : Int)).toNat else min (1 + r).toNat (xs.length + 1)) = 1 + r.toNat
    rw [if_neg (by omega)]
    omega
  unfold cutV
  rw [a1, a2, List.drop_one, List.tail_cons, Nat.add_sub_cancel_left]
def spArs : Sp := fun vs H Q _ => ∃ (d : Addr) (n : Nat), vs = [.ref d] ∧ Dice H d n ∧ n + 40 < 1000000 ∧
  ∀ (q : Addr) (l : List (Str × Nat)) (H' : Hp), q ≠ d → H q = none → Kp d H H' → H' q = some (.dK (dkv l)) → Ars l → Dice H' d (n + 40) → Q (.ref q) H'
section
variable {P : Program} {w : World} {K : PySem.W.Frag} {mg : Str → Option Value} {base : Heap} {fR fP fM : Addr} {dR dP dM : FuncData}
theorem scArs : FnScope ["dice", "names", "found", "name"] ["dice"] (defScope sArs) := ⟨rfl, rfl, rfl, by decide +kernel, rfl, by decide +kernel, by decide +kernel⟩
theorem ok_ars {f : Addr} {fd : FuncData} (F : Fun K "_law_arities" "_law_arities" sArs f fd) (D : Draws K mg fR fP fM dR dP dM) (T : Free mg) : FnOk P w K mg base CX0 3 f fd ["dice"] spArs := by
  have GR : FnOk P w K mg base CX0 1 fR dR ["dice", "total"] spRoll := ok_roll D.FR T
  have GM : FnOk P w K mg base CX0 2 fM dM ["dice", "items"] (spMixed K) := ok_mixed D T
  refine F.ok scArs (fun vs H Q E h => ?_) (fun cdv A outer s H vs Q E hr h => ?_)
  · obtain ⟨d, n, rfl, _⟩ := h
    rfl
  · obtain ⟨d, n, rfl, di, hn, q⟩ := h
    have r1 : Room 1 _ := hr.mono (by decide)
    have hu := hr.units
    refine ⟨_, pss_cons (ps_set (i := 1) scArs.nd rfl (.inl rfl) (pe_call GM hr (by rfl) D.gM D.FM.kp D.bM .nil pass0 (pa_cons (pv 0) (pa_cons (pe_lst (pa_cons pe_str (pa_cons pe_str (pa_cons pe_str (pa_cons pe_str (pa_cons pe_str (pa_cons pe_str (pa_cons pe_str (pa_cons pe_str (pa_cons pe_str (pa_cons pe_str pa_nil))))))))))) pa_nil)))) (pss_cons (ps_set (i := 2) scArs.nd rfl (.inl rfl) (pe_disp (pps_cons (pe_ix ix_list (pv 1) pe_int (fun _ _ => rfl)) pe_int pps_nil) (by rfl) (by rfl) (fun z => by cases z) (by decide))) (pss_cons (ps_for PassesOwn.never rfl (pi_list (pe_slice sl_list (pv 1) (po_some pe_int) (po_some (pe_op op_add pe_int (pe_call GR r1 (by rfl) D.gR D.FR.kp D.bR .nil pass0 (pa_cons (pv 0) (pa_cons pe_int pa_nil))))))) (pg_name (i := 3) scArs.nd rfl (.inl rfl)) (pss_one (ps_asg (pe_call GR r1 (by rfl) D.gR D.FR.kp D.bR .nil pass0 (pa_cons (pv 0) (pa_cons pe_int pa_nil))) (pg_sub (pv 2) (pv 3) (set_dict (Nat.lt_of_le_of_lt (Nat.add_le_add_left (by decide : 1 ≤ 64) _) hu)))))) (pss_one (ps_ret (pe_callTy (call_dictP rfl) (by rfl) T.dict (by decide +kernel) (pa_cons (pe_call GM hr (by rfl) D.gM D.FM.kp D.bM .nil pass0 (pa_cons (pv 0) (pa_cons (LiI.pe_listItems (by rfl) (pv 2) (by rfl) T.list (by decide +kernel)) pa_nil))) pa_nil)))))), ?_⟩
    obtain ⟨ds, hd⟩ := di.there
    -- names
    refine ⟨_, rfl, by show 10 ≤ sizeLine; decide, fun lp nlp => ?_⟩
    have dlp : d ≠ lp := ne_of_none hd nlp
    refine ⟨d, lp, n, pool.map V.str, rfl, dlp.symm, SqL.of upd_same, by show 10 ≤ 1000; decide, di.same (Same.new nlp), by show n + 10 < 1000000; omega, fun b ys H1 nbd nb kp hb pm di1 => ?_⟩
    obtain ⟨zs, pz, rfl⟩ := perm_map pm
    have lz : zs.length = 10 := pz.length_eq
    have ndz : zs.Nodup := pz.nodup_iff.mpr (by decide +kernel)
    have di1' : Dice H1 d (n + 10) := di1
    -- found
    refine fun f nf => ?_
    have bf : b ≠ f := ne_of_none hb nf
    obtain ⟨ds1, hd1⟩ := di1'.there
    have df : d ≠ f := ne_of_none hd1 nf
    cases zs with
    | nil => cases lz
    | cons z0 zr =>
    have lr : zr.length = 9 := Nat.succ.inj lz
    refine ⟨_, rfl, b, _, _, _, rfl, rfl, SqL.of (by rw [upd_ne bf]; exact hb), atI_nat (j := 0) (v := V.str z0) rfl, upd_same, [(.inr z0, .int 0)], rfl, Nat.le_of_ble_eq_true rfl, ?_⟩
    rw [upd_upd]
    have hf : (upd H1 f (.dK (dkv [(z0, 0)]))) f = some (.dK (dkv [(z0, 0)])) := upd_same
    have di2 : Dice (upd H1 f (.dK (dkv [(z0, 0)]))) d (n + 10) := di1'.same (Same.new nf)
    have kp2 : Kp d H (upd H1 f (.dK (dkv [(z0, 0)]))) := ((Kp.new nlp).trans kp).trans (Kp.new nf)
    have hb2 : (upd H1 f (.dK (dkv [(z0, 0)]))) b = some (.lst ((z0 :: zr).map V.str)) := by rw [upd_ne bf]; exact hb
    have nHf : H f = none := Kp.free ((Kp.new nlp).trans kp) df.symm nf
    have hpz : ∀ z ∈ z0 :: zr, z ∈ pool := fun z m => pz.mem_iff.mp m
    -- the names behind the first one
    refine ⟨_, rfl, 1, rfl, _, rfl, d, 4, n + 10, rfl, di2, by omega, by decide, by decide +kernel, fun r o r0 r1' di3 => ⟨_, _, rfl, rfl, _, rfl, b, _, rfl, SqL.of ((Kp.upd (d := d)) _ _ nbd hb2), fun p np => ?_⟩⟩
    have cut : cutV ((z0 :: zr).map V.str) (some 1) (some (1 + r)) = (zr.take r.toNat).map V.str := by
      rw [List.map_cons, cut_one (by omega) (by rw [List.length_map]; omega), List.map_take]
    rw [cut]
    refine ⟨p, rfl, ⟨_, SqL.of upd_same⟩, ?_⟩
    have hf3 : (upd (upd H1 f (.dK (dkv [(z0, 0)]))) d o) f = some (.dK (dkv [(z0, 0)])) := (Kp.upd (d := d)) _ _ df.symm hf
    obtain ⟨ds3, hd3⟩ := di3.there
    have dp : d ≠ p := ne_of_none hd3 np
    have fp : f ≠ p := ne_of_none hf3 np
    have k3 : Kp d H (upd (upd H1 f (.dK (dkv [(z0, 0)]))) d o) := kp2.trans Kp.upd
    refine for_list (K := K) (a := p) (xs := (zr.take r.toNat).map V.str) (fun i σ H' => ∃ (v3 : Option V) (l : List (Str × Nat)), σ = [some (.ref d), some (.ref b), some (.ref f), v3] ∧ Kp d H H' ∧ H' p = some (.lst ((zr.take r.toNat).map V.str)) ∧
        H' f = some (.dK (dkv l)) ∧ l.map (·.1) = z0 :: zr.take i ∧ (∀ x ∈ l, x.2 ≤ 2) ∧ (z0, 0) ∈ l ∧ Dice H' d (n + 11 + i))
      ⟨none, [(z0, 0)], rfl, k3.trans (Kp.new np), upd_same, (Same.new np) _ _ hf3, rfl, by simp, by simp, di3.same (Same.new np)⟩ (fun i σ H' _ ⟨_, _, _, _, hp, _⟩ => SqL.of hp) ?_ ?_
    · rintro i x σ H' hx ⟨v3, l, rfl, kp', hp, hf', keys, two, c0, di'⟩
      have hx2 := List.getElem?_eq_some_iff.mp hx
      obtain ⟨hi, ex⟩ := hx2
      rw [List.length_map, List.length_take] at hi
      have hi9 : i < zr.length := by omega
      have ex2 : x = V.str zr[i] := by
        rw [← ex]
        simp
      subst ex2
      refine ⟨_, rfl, d, 3, n + 11 + i, rfl, di', by omega, by decide, by decide +kernel, fun r2 o2 r20 r21 di4 => ⟨_, rfl, _, rfl, f, _, rfl, DPut.k (k := .inr zr[i]) ((Kp.upd (d := d)) _ _ df.symm hf') ?_, ?_⟩⟩
      · have : l.length = (l.map (·.1)).length := (List.length_map _).symm
        rw [keys, List.length_cons, List.length_take] at this
        have e : (dkv l).length = l.length := List.length_map _
        rw [e, sizeLine_eq]
        omega
      · have nz : zr[i] ∉ l.map (·.1) := by
          rw [keys]
          have nd2 := (List.nodup_cons.mp ndz)
          intro m
          rcases List.mem_cons.mp m with m | m
          · exact nd2.1 (m ▸ List.getElem_mem hi9)
          · obtain ⟨j, hj, e⟩ := List.mem_iff_getElem.mp m
            rw [List.length_take] at hj
            rw [List.getElem_take] at e
            have := (List.getElem_inj nd2.2).mp e
            omega
        have er : r2 = ((r2.toNat : Nat) : Int) := (Int.toNat_of_nonneg r20).symm
        rw [er, put_end nz]
        have fd : f ≠ d := df.symm
        refine ⟨_, l ++ [(zr[i], r2.toNat)], rfl, fun c u nc e => ?_, ?_, upd_same, ?_, fun x m => ?_, List.mem_append_left _ c0, (di4.kept fun u e => ?_).more (by omega) (by omega)⟩
        · rw [upd_ne (ne_of_none e nHf), upd_ne nc]
          exact kp' c u nc e
        · rw [upd_ne fp.symm, upd_ne dp.symm]
          exact hp
        · rw [List.map_append, keys, List.take_add_one, List.getElem?_eq_getElem hi9]
          rfl
        · rcases List.mem_append.mp m with m | m
          · exact two x m
          · rw [List.mem_singleton.mp m]
            show r2.toNat ≤ 2
            omega
        · rw [upd_ne df]
          exact e
    · rintro σ H' ⟨v3, l, rfl, kp', hp, hf', keys, two, c0, di'⟩
      rw [List.length_map, List.length_take] at keys di'
      have lm : Nat.min r.toNat zr.length = r.toNat := Nat.min_eq_left (by omega)
      have ll : l.length = r.toNat + 1 := by
        have := (List.length_map (as := l) (·.1))
        rw [keys, List.length_cons, List.length_take] at this
        omega
      have ars : Ars l := by
        refine ⟨by omega, ?_, fun x m => ?_, two, _, c0, rfl⟩
        · rw [keys]
          have nd2 := List.nodup_cons.mp ndz
          exact List.nodup_cons.mpr ⟨fun m => nd2.1 (List.mem_of_mem_take m), (List.take_sublist _ _).nodup nd2.2⟩
        · have : x.1 ∈ l.map (·.1) := List.mem_map_of_mem m
          rw [keys] at this
          rcases List.mem_cons.mp this with e | m2
          · rw [e]
            exact hpz z0 List.mem_cons_self
          · exact hpz _ (List.mem_cons_of_mem _ (List.mem_of_mem_take m2))
      refine ⟨_, rfl, _, rfl, f, dkv l, rfl, hf', fun H5 p2 ts sm np2 nts pts h2 pr => ?_⟩
      have lts : ts.length = l.length := by
        have e : (dkv l).length = l.length := List.length_map _
        rw [pr.length, e]
      obtain ⟨ds5, hd5⟩ := di'.there
      refine ⟨d, p2, n + 11 + min r.toNat zr.length, ts.map V.ref, rfl, (ne_of_none hd5 np2).symm, SqL.of h2, by rw [List.length_map]; omega, di'.same sm, by rw [List.length_map]; omega, fun q2 ys H6 nqd nq2 kp6 hq2 pm2 di6 => ?_⟩
      obtain ⟨ps, pps, rfl⟩ := perm_map pm2
      obtain ⟨kvs, pk, pr2⟩ := paired_perm pps (paired_and (P := fun t => t ≠ d) (fun t m => (ne_of_none hd5 (nts t m)).symm) pr)
      obtain ⟨l2, pl, rfl⟩ := perm_map pk
      refine ⟨q2, ps, dkv l2, rfl, SqL.of hq2, paired_map (fun t k h => SqT.of (kp6 _ _ h.1 h.2)) pr2, fun p9 np9 => ?_⟩
      have a2 := ars.perm pl
      rw [merge_all a2.nd]
      obtain ⟨ds6, hd6⟩ := di6.there
      have k9 : Kp d H (upd H6 p9 (.dK (dkv l2))) := ((kp'.trans (Kp.same sm)).trans kp6).trans (Kp.new np9)
      have p9d : p9 ≠ d := (ne_of_none hd6 np9).symm
      refine q p9 l2 _ p9d (Kp.free ((kp'.trans (Kp.same sm)).trans kp6) p9d np9) k9 upd_same a2 ((di6.same (Same.new np9)).more ?_ ?_)
      · rw [List.length_map]
        omega
      · omega
end
end Pr

namespace Pr
open PySem PySem.Spec PyProof.Rows L2 Gd
theorem if_true_of {c : Bool} {A B : Prop} (hc : c = true) (h : A) : if c = true then A else B := by rw [if_pos hc]; exact h
theorem if_false_of {c : Bool} {A B : Prop} (hc : c = false) (h : B) : if c = true then A else B := by rw [hc, if_neg Bool.false_ne_true]; exact h
/-! ### drawn trees -/
/-- zs is a row of n trees over the operators l -/
inductive Fo (l : List (Str × Nat)) : Nat → List Str → Prop where
  | nil : Fo l 0 []
  | cons {z : Str} {a n : Nat} {zs : List Str} (m : (z, a) ∈ l) (h : Fo l (n + a) zs) : Fo l (n + 1) (z :: zs)
theorem val_some {z : Str} {a : Nat} : ∀ {l : List (Str × Nat)}, (l.map (·.1)).Nodup → (z, a) ∈ l → valV (dkv l) (.inr z : Key) = some (.int (a : Int))
  | p :: l, nd, h => by
    show valV ((.inr p.1, .int (p.2 : Int)) :: dkv l) (.inr z : Key) = some (.int (a : Int))
    have nd' := List.nodup_cons.mp nd
    rcases List.mem_cons.mp h with e | h
    · subst e
      rw [valV_pos rfl]
    · rw [valV_neg (fun e => nd'.1 (by
        have e' : p.1 = z := Sum.inr.inj e
        have m : (z, a).1 ∈ l.map (·.1) := List.mem_map_of_mem h
        exact (show p.1 ∈ l.map (·.1) from e' ▸ m)))]
      exact val_some nd'.2 h
def constB (l : List (Str × Nat)) (z : Str) : Bool := decide ((z, 0) ∈ l)
theorem filt_more {p : Str → Bool} {zs : List Str} {i : Nat} {z : Str} (h : zs[i]? = some z) : (zs.take (i + 1)).filter p = (zs.take i).filter p ++ (if p z then [z] else []) := by
  rw [List.take_add_one, h, List.filter_append]
  cases e : p z <;> simp [e]
theorem pe_imp {X : Cx} {e : Expr} {t t' : TE} (h : PE X e t) (k : ∀ σ H Q, t' σ H Q → t σ H Q) : PE X e t' := ⟨fun pins s σ H Q I q => h.run pins s σ H Q I (k σ H Q q)⟩
/-- a name is drawn -/
abbrev t_pk (K : PySem.W.Frag) : TE := tCall (spPick K) [] E0 (tCons (tVar 0) (tCons (tIf (tTest (tOp (rI0 fun i j => V.bl (decide (i < j))) (tOp (rI0 fun i j => V.int (i + j)) (tCB (fun xs H1 Q => ∃ p ys, xs = [V.ref p] ∧ (SqL K H1 p ys ∨ SqT K H1 p ys) ∧ Q (V.int (ys.length : Int)) H1) (tCons (tVar 3) tNil)) (tVar 4)) (tVar 2))) (tVar 5) (tVar 6)) tNil))
def t_pkB : TE := fun σ H Q => ∃ (d f ns cs : Addr) (cap o : Int) (ws ks cl : List Str) (n : Nat), σ[0]? = some (some (.ref d)) ∧ σ[2]? = some (some (.int cap)) ∧ σ[3]? = some (some (.ref f)) ∧ σ[4]? = some (some (.int o)) ∧ σ[5]? = some (some (.ref ns)) ∧ σ[6]? = some (some (.ref cs)) ∧ ns ≠ d ∧ cs ≠ d ∧
  H f = some (.lst (ws.map V.str)) ∧ H ns = some (.lst (ks.map V.str)) ∧ H cs = some (.lst (cl.map V.str)) ∧ ks ≠ [] ∧ cl ≠ [] ∧ ks.length ≤ 4 ∧ cl.length ≤ 4 ∧ Dice H d n ∧ n < 1000000 ∧
  ∀ z o2, (z ∈ ks ∧ (ws.length : Int) + o < cap) ∨ z ∈ cl → Dice (upd H d o2) d (n + 1) → Q (.str z) (upd H d o2)
theorem pk_imp {K : PySem.W.Frag} : ∀ σ H Q, t_pkB σ H Q → t_pk K σ H Q := by
  rintro σ H Q ⟨d, f, ns, cs, cap, o, ws, ks, cl, n, h0, h2, h3, h4, h5, h6, n1, n2, hf, hn, hc, kn, cn, k4, c4, di, hl, q⟩
  refine ⟨_, h0, _, h3, f, _, rfl, .inl (SqL.of hf), _, h4, _, _, rfl, rfl, _, h2, _, _, rfl, rfl, _, rfl, ?_⟩
  rw [List.length_map]
  by_cases c : (ws.length : Int) + o < cap
  · refine if_true_of (decide_eq_true c) ⟨_, h5, d, ns, n, _, rfl, n1, .inl (SqL.of hn), fun e => kn (List.map_eq_nil_iff.mp e), by rw [List.length_map]; omega, di, hl, fun v o2 mv di2 => ?_⟩
    obtain ⟨z, m, rfl⟩ := List.mem_map.mp mv
    exact q z o2 (.inl ⟨m, c⟩) di2
  · refine if_false_of (decide_eq_false c) ⟨_, h6, d, cs, n, _, rfl, n2, .inl (SqL.of hc), fun e => cn (List.map_eq_nil_iff.mp e), by rw [List.length_map]; omega, di, hl, fun v o2 mv di2 => ?_⟩
    obtain ⟨z, m, rfl⟩ := List.mem_map.mp mv
    exact q z o2 (.inr m) di2
def spDrawn : Sp := fun vs H Q _ => ∃ (d p : Addr) (cap n : Nat) (l : List (Str × Nat)), vs = [.ref d, .ref p, .int (cap : Int)] ∧ p ≠ d ∧ H p = some (.dK (dkv l)) ∧ Ars l ∧ 1 ≤ cap ∧ cap ≤ 400 ∧ Dice H d n ∧ n + 2 * cap + 3 < 1000000 ∧
  ∀ (q : Addr) (zs : List Str) (H' : Hp), q ≠ d → H q = none → Kp d H H' → H' q = some (.tup (zs.map V.str)) → Fo l 1 zs → zs.length ≤ cap + 1 → Dice H' d (n + 2 * cap + 3) → Q (.ref q) H'
section
variable {P : Program} {w : World} {K : PySem.W.Frag} {mg : Str → Option Value} {base : Heap} {fR fP fM : Addr} {dR dP dM : FuncData}
theorem scDrawn : FnScope ["dice", "arities", "cap", "found", "open_ends", "names", "constants", "turn", "name"] ["dice", "arities", "cap"] (defScope sDrawn) := ⟨rfl, rfl, rfl, by decide +kernel, rfl, by decide +kernel, by decide +kernel⟩
theorem ok_drawn {f : Addr} {fd : FuncData} (F : Fun K "_law_drawn_tree" "_law_drawn_tree" sDrawn f fd) (D : Draws K mg fR fP fM dR dP dM) (T : Free mg) : FnOk P w K mg base CX0 3 f fd ["dice", "arities", "cap"] spDrawn := by
  have GP : FnOk P w K mg base CX0 2 fP dP ["dice", "items"] (spPick K) := ok_pick D T
  refine F.ok scDrawn (fun vs H Q E h => ?_) (fun cdv A outer s H vs Q E hr h => ?_)
  · obtain ⟨d, p, cap, n, l, rfl, _⟩ := h
    rfl
  · obtain ⟨d, p, cap, n, l, rfl, npd, hp, ars, c1, c4, di, hn, q⟩ := h
    have hu := hr.units
    have hu1 : ∀ {u : Nat}, u + 64 < cLine → u + 1 < cLine := fun h => by omega
    refine ⟨_, pss_cons (ps_par3 (i := 3) (j := 4) (l := 5) (by rfl) scDrawn.nd rfl rfl rfl (by decide) (by decide) (by decide) rfl rfl rfl (pa_cons (pe_lst pa_nil) (pa_cons pe_int (pa_cons (pe_callB (call_sortedD (by rfl)) (by rfl) T.sorted (by decide +kernel) (pa_cons (pv 1) pa_nil)) pa_nil))) (by rfl)) (pss_cons (ps_setLc (i := 6) (own := [("name", 8)]) (g := gName 8) (by rfl) scDrawn.nd rfl rfl (sw_true rfl rfl rfl (by decide +kernel)) (pi_list (pv 5)) (blkOk_by (own := [("name", 8)]) (N := ["dice", "arities", "cap", "found", "open_ends", "names", "constants", "turn", "name"]) (sc := defScope sDrawn) (by decide +kernel)) (fun _ _ _ _ _ => pg_name (i := 8) scDrawn.nd rfl (Or.inl rfl)) (fun _ _ _ _ _ => pts_one (pt_cmpR op_eq (pe_dget (hu1 hu) (pv 1) (pv 8) (fun _ _ => rfl)) pe_int (nomark _))) (fun _ _ _ _ _ => pv 8)) (pss_cons (ps_for PassesOwn.never rfl (pi_range1 rfl T.range (pa_cons (pe_op op_add (pe_op op_mul pe_int (pv 2)) pe_int) pa_nil)) (pg_name (i := 7) scDrawn.nd rfl (.inl rfl)) (pss_cons (ps_if (pt_cmpR op_eq (pv 4) pe_int (nomark _)) (pss_one ps_break) pss_nil) (pss_cons (ps_set (i := 8) scDrawn.nd rfl (.inl rfl) (pe_imp (pe_call GP (hr.mono (by decide)) (by rfl) D.gP D.FP.kp D.bP .nil pass0 (pa_cons (pv 0) (pa_cons (pe_ifExp (pt_cmpR op_lt (pe_op op_add (pe_callB call_len_seq (by rfl) T.len PySem.boot_len (pa_cons (pv 3) pa_nil)) (pv 4)) (pv 2) (nomark _)) (pv 5) (pv 6)) pa_nil))) pk_imp)) (pss_cons (ps_expr (pe_bm PySem.F.plainAttrs_list PySem.F.slot_list_append PySem.F.type_list_append mt_append (pv 3) (pa_cons (pv 8) pa_nil))) (pss_one (ps_set (i := 4) scDrawn.nd rfl (.inl rfl) (pe_op op_add (pe_op op_sub (pv 4) pe_int) (pe_dget (hu1 hu) (pv 1) (pv 8) (fun _ _ => rfl))))))))) (pss_one (ps_ret (pe_callTy call_tuple_of (by rfl) T.tuple (by decide +kernel) (pa_cons (pv 3) pa_nil)))))), ?_⟩
    obtain ⟨ds, hd⟩ := di.there
    -- found, open_ends, names
    refine ⟨by show 0 ≤ sizeLine; decide, fun f nf => ?_⟩
    have hp1 := (Same.new nf (o := .lst [])) _ _ hp
    refine ⟨_, rfl, p, dkv l, l.map (·.1), rfl, Rd.of hp1, by unfold dkv; rw [List.map_map, List.map_map]; rfl, by rw [List.length_map]; have := ars.few; omega, fun ks ns pk _ nns => ⟨_, _, _, rfl, ?_⟩⟩
    have s1 := (Same.new nf (o := .lst [])).trans (Same.new nns (o := .lst (ks.map V.str)))
    have hf1 : (upd (upd H f (.lst [])) ns (.lst (ks.map V.str))) f = some (.lst []) := (Same.new nns) _ _ upd_same
    have hns1 : (upd (upd H f (.lst [])) ns (.lst (ks.map V.str))) ns = some (.lst (ks.map V.str)) := upd_same
    have nfn : f ≠ ns := ne_of_none (upd_same (H := H) (a := f) (o := .lst [])) nns
    have dns : d ≠ ns := ne_of_none ((Same.new nf (o := .lst [])) _ _ hd) nns
    have nHns : H ns = none := (Same.new nf (o := .lst [])).free nns
    generalize upd (upd H f (.lst [])) ns (.lst (ks.map V.str)) = H1 at s1 hf1 hns1 ⊢
    have lk : ks.length = l.length := by rw [pk.length_eq, List.length_map]
    have ark : ∀ z ∈ ks, ∃ a, (z, a) ∈ l := fun z m => by
      obtain ⟨x, m2, e⟩ := List.mem_map.mp (pk.mem_iff.mp m)
      exact ⟨x.2, by rw [← e]; exact m2⟩
    -- constants
    refine ⟨_, rfl, ns, rfl, ⟨_, SqL.of hns1⟩, fun cs ncs => ?_⟩
    refine lc_list (K := K) (a := ns) (xs := ks.map V.str) (fun i G => G cs = some (.lst (((ks.take i).filter (constB l)).map V.str)) ∧ Same H1 G) ⟨upd_same, Same.new ncs⟩ (fun i G _ ⟨_, s⟩ => SqL.of (s _ _ hns1)) ?_ ?_
    · rintro i x G hx ⟨eD, s⟩
      obtain ⟨z, hz, rfl⟩ : ∃ z, ks[i]? = some z ∧ V.str z = x := by
        rw [List.getElem?_map] at hx
        cases e : ks[i]? with
        | none => rw [e] at hx; cases hx
        | some b => rw [e] at hx; exact ⟨b, rfl, Option.some.inj hx⟩
      obtain ⟨a, ma⟩ := ark z (List.mem_of_getElem? hz)
      have hpG := s _ _ (s1 _ _ hp)
      have vz := val_some ars.nd ma
      refine ⟨rfl, _, rfl, _, rfl, p, _, rfl, vz ▸ DGet.k (k := .inr z) hpG, rfl, _, rfl, ?_⟩
      have more := filt_more (p := constB l) hz
      have uq : ∀ a2, (z, a2) ∈ l → a2 = a := fun a2 m2 => by
        have e := (val_some ars.nd m2).symm.trans vz
        have e2 := V.int.inj (Option.some.inj e)
        omega
      have fewc : ((ks.take i).filter (constB l)).length ≤ 4 := by
        have a1 := List.length_filter_le (constB l) (ks.take i)
        rw [List.length_take] at a1
        have := ars.few
        omega
      cases a with
      | zero =>
        have cb : constB l z = true := decide_eq_true ma
        rw [cb, if_pos rfl] at more
        refine if_true_of (by decide) ⟨_, rfl, _, eD, by rw [List.length_map, sizeLine_eq]; omega, ?_, fun a o x => by rw [upd_ne (ne_of_none x ncs)]; exact s a o x⟩
        rw [upd_same, more, List.map_append]
        rfl
      | succ a =>
        have cb : constB l z = false := decide_eq_false fun m0 => by
          have := uq 0 m0
          omega
        rw [cb, if_neg Bool.false_ne_true, List.append_nil] at more
        refine if_false_of (decide_eq_false fun e => ?_) ⟨by rw [eD, more], s⟩
        have := V.int.inj e
        omega
    rintro G ⟨eD, s2⟩
    have eD2 : G cs = some (.lst ((ks.filter (constB l)).map V.str)) := by
      have t0 := List.take_of_length_le (l := ks) (i := (ks.map V.str).length) (by rw [List.length_map]; exact Nat.le_refl _)
      rw [t0] at eD
      exact eD
    generalize ecl : ks.filter (constB l) = cl at eD2
    have cln : cl ≠ [] := fun e => by
      obtain ⟨x, m, e0⟩ := ars.const
      have mk : x.1 ∈ ks := pk.mem_iff.mpr (List.mem_map_of_mem m)
      have cb : constB l x.1 = true := decide_eq_true (by
        have : x = (x.1, 0) := by rw [← e0]
        exact this ▸ m)
      have : x.1 ∈ ks.filter (constB l) := List.mem_filter.mpr ⟨mk, cb⟩
      rw [ecl, e] at this
      cases this
    have cl0 : ∀ z ∈ cl, (z, 0) ∈ l := fun z m => by
      rw [← ecl] at m
      exact of_decide_eq_true (List.mem_filter.mp m).2
    have cl4 : cl.length ≤ 4 := by
      rw [← ecl]
      have a1 := List.length_filter_le (constB l) ks
      have := ars.few
      omega
    have ksn : ks ≠ [] := fun e => by
      rw [e] at lk
      have := ars.few
      exact absurd lk (by simp; omega)
    have nHf : H f = none := nf
    have dG := (di.same s1).same s2
    have hpG := s2 _ _ (s1 _ _ hp)
    have hfG := s2 _ _ hf1
    have hnG := s2 _ _ hns1
    have df : d ≠ f := ne_of_none hd nf
    have pf : p ≠ f := ne_of_none hp nf
    have dcs : d ≠ cs := ne_of_none (s1 _ _ hd) ncs
    have fcs : f ≠ cs := ne_of_none hf1 ncs
    have nHcs : H cs = none := s1.free ncs
    refine ⟨_, rfl, 2, (cap : Int), rfl, rfl, .inl ⟨by decide, by decide⟩, _, _, rfl, rfl, _, rfl, by omega, by omega, ?_⟩
    refine for_range (lo := 0) (n := (2 * (cap : Int) + 3).toNat) (fun i σ H' => ∃ (v7 v8 : Option V) (ws : List Str) (o : Nat), σ = [some (.ref d), some (.ref p), some (.int (cap : Int)), some (.ref f), some (.int (o : Int)), some (.ref ns), some (.ref cs), v7, v8] ∧ Kp d H H' ∧
        H' f = some (.lst (ws.map V.str)) ∧ H' ns = some (.lst (ks.map V.str)) ∧ H' cs = some (.lst (cl.map V.str)) ∧ ws.length = i ∧ i + o ≤ cap + 1 ∧ (∀ zs, Fo l o zs → Fo l 1 (ws ++ zs)) ∧ Dice H' d (n + i))
      ⟨none, none, [], 1, rfl, Kp.same (s1.trans s2), hfG, hnG, eD2, rfl, by omega, fun zs h => h, dG⟩ ?_ ?_
    · rintro i σ H' hi ⟨v7, v8, ws, o, rfl, kp, hf', hn', hc', lw, io, fo, di'⟩
      refine ⟨_, rfl, rfl, _, rfl, ?_⟩
      cases o with
      | zero =>
        refine if_true_of (by decide) ⟨_, rfl, f, _, rfl, .inl ⟨SqL.of hf', fun t nt => ?_⟩⟩
        have f1 := fo [] .nil
        rw [List.append_nil] at f1
        obtain ⟨ds', hd'⟩ := di'.there
        have td : t ≠ d := (ne_of_none hd' nt).symm
        exact q t ws _ td (Kp.free kp td nt) (kp.trans (Kp.new nt)) upd_same f1 (by omega) ((di'.same (Same.new nt)).more (by omega) (by omega))
      | succ o =>
        refine if_false_of (decide_eq_false fun e => ?_) ?_
        · have := V.int.inj e
          omega
        have kl4 : ks.length ≤ 4 := by
          have := ars.few
          omega
        refine ⟨d, f, ns, cs, (cap : Int), ((o + 1 : Nat) : Int), ws, ks, cl, n + i, rfl, rfl, rfl, rfl, rfl, rfl, dns.symm, dcs.symm, hf', hn', hc', ksn, cln, kl4, cl4, di', by omega, fun z o2 hz di2 => ?_⟩
        obtain ⟨a, ma, ha⟩ : ∃ a, (z, a) ∈ l ∧ ws.length + 1 + (o + a) ≤ cap + 1 := by
          rcases hz with ⟨m, c⟩ | m
          · obtain ⟨a, ma⟩ := ark z m
            have := ars.two _ ma
            exact ⟨a, ma, by omega⟩
          · exact ⟨0, cl0 z m, by omega⟩
        have k2 : Kp d H' (upd H' d o2) := Kp.upd
        have vz := val_some ars.nd ma
        have hf2 := k2 _ _ df.symm hf'
        have hp2 : (upd H' d o2) p = some (.dK (dkv l)) := k2 _ _ npd (kp _ _ npd hp)
        refine ⟨_, rfl, .inl ⟨rfl, _, SqL.of hf2⟩, _, rfl, f, _, _, rfl, rfl, hf2, by rw [List.length_map, sizeLine_eq]; omega, ?_⟩
        have hp3 : (upd (upd H' d o2) f (.lst (ws.map V.str ++ [.str z]))) p = some (.dK (dkv l)) := by
          rw [upd_ne pf]
          exact hp2
        refine ⟨_, rfl, _, _, rfl, rfl, _, rfl, _, rfl, p, _, rfl, vz ▸ DGet.k (k := .inr z) hp3, _, _, rfl, rfl, ?_⟩
        refine ⟨some (.int (0 + (i : Int))), some (.str z), ws ++ [z], o + a, ?_, fun b u nb e => ?_, by rw [upd_same, List.map_append]; rfl, ?_, ?_, by simp [lw], by omega, fun zs h => ?_, (di2.kept fun u e => ?_).more (by omega) (by omega)⟩
        · have e : ((o + 1 : Nat) : Int) - 1 + (a : Int) = ((o + a : Nat) : Int) := by omega
          show ([some (V.ref d), some (V.ref p), some (V.int (cap : Int)), some (V.ref f), some (V.int (((o + 1 : Nat) : Int) - 1 + (a : Int))), some (V.ref ns), some (V.ref cs), some (V.int (0 + (i : Int))), some (V.str z)] : L2.St) = _
          rw [e]
        · rw [upd_ne (ne_of_none e nHf)]
          exact k2 _ _ nb (kp _ _ nb e)
        · rw [upd_ne nfn.symm]
          exact k2 _ _ dns.symm hn'
        · rw [upd_ne fcs.symm]
          exact k2 _ _ dcs.symm hc'
        · rw [List.append_assoc]
          exact fo _ (.cons ma h)
        · rw [upd_ne df]
          exact e
    · rintro σ H' ⟨v7, v8, ws, o, rfl, kp, hf', hn', hc', lw, io, fo, di'⟩
      omega
end
end Pr

namespace Pr
open PySem PySem.Spec PyProof.Rows L2
/-! ### integers, counts, coprime pairs -/
theorem Kd.ty {K : PySem.W.Frag} {H : Hp} {v : V} {t : String} (k : Kd H v t) : TyX K H v (.type t) := by
  cases k with
  | non => exact .base .non
  | bl b => exact .base (.bl b)
  | int i => exact .base (.int i)
  | str z => exact .base (.str z)
  | lst e => exact .base (.lst e)
  | tup e => exact .base (.tup e)
  | dK e => exact .base (.dK e)
/-- is it an int (a bool is one); is it a bool -/
def isI : V → Bool
  | .bl _ => true
  | .int _ => true
  | _ => false
def isB : V → Bool
  | .bl _ => true
  | _ => false
theorem kit_int {K : PySem.W.Frag} {H : Hp} {v : V} {t : String} (k : Kd H v t) : PySem.W.kitOne K (.type t) (.type "int") = some (isI v) := by
  cases k <;> first | exact kit_ty (r := true) (by decide +kernel) | exact kit_ty (r := false) (by decide +kernel)
theorem kit_bool {K : PySem.W.Frag} {H : Hp} {v : V} {t : String} (k : Kd H v t) : PySem.W.kitOne K (.type t) (.type "bool") = some (isB v) := by
  cases k <;> first | exact kit_ty (r := true) (by decide +kernel) | exact kit_ty (r := false) (by decide +kernel)
/-- an integer of at most sixty digits; a count -/
def isInt : V → Bool
  | .int i => decide ((if i < 0 then -i else i) < 10 ^ (60 : Int).toNat)
  | _ => false
def isCount : V → Bool
  | .int i => decide ((if i < 0 then -i else i) < 10 ^ (60 : Int).toNat) && decide (0 ≤ i)
  | _ => false
theorem count_nat {v : V} (h : isCount v = true) : ∃ n : Nat, v = .int n ∧ n < 10 ^ 60 := by
  cases v with
  | int i =>
    have h' : (decide ((if i < 0 then -i else i) < 10 ^ (60 : Int).toNat) && decide (0 ≤ i)) = true := h
    rw [Bool.and_eq_true] at h'
    have h1 := of_decide_eq_true h'.1
    have h2 := of_decide_eq_true h'.2
    rw [if_neg (by omega)] at h1
    have e : ((10 : Int) ^ (60 : Int).toNat) = ((10 ^ 60 : Nat) : Int) := by decide +kernel
    rw [e] at h1
    exact ⟨i.toNat, by rw [Int.toNat_of_nonneg h2], by omega⟩
  | _ => cases h
theorem nat_count {n : Nat} (h : n < 10 ^ 60) : isCount (.int n) = true := by
  show (decide ((if (n : Int) < 0 then -(n : Int) else n) < 10 ^ (60 : Int).toNat) && decide ((0 : Int) ≤ n)) = true
  have e : ((10 : Int) ^ (60 : Int).toNat) = ((10 ^ 60 : Nat) : Int) := by decide +kernel
  rw [if_neg (by omega), e, decide_eq_true (by omega), decide_eq_true (by omega)]
  rfl
def spInt : Sp := fun vs H Q _ => ∃ (v : V) (t : String), vs = [v] ∧ Kd H v t ∧ Q (.bl (isInt v)) H
def spCount : Sp := fun vs H Q _ => ∃ (v : V) (t : String), vs = [v] ∧ Kd H v t ∧ Q (.bl (isCount v)) H
section
variable {P : Program} {w : World} {K : PySem.W.Frag} {mg : Str → Option Value} {base : Heap}
theorem scInteger : FnScope ["value"] ["value"] (defScope sInteger) := ⟨rfl, rfl, rfl, by decide +kernel, rfl, by decide +kernel, by decide +kernel⟩
theorem ok_integer {f : Addr} {fd : FuncData} (F : Fun K "is_integer" "is_integer" sInteger f fd) (T : Free mg) : FnOk P w K mg base CX0 1 f fd ["value"] spInt := by
  refine F.ok scInteger (fun vs H Q E h => ?_) (fun cdv A outer s H vs Q E hr h => ?_)
  · obtain ⟨v, t, rfl, _⟩ := h
    rfl
  · obtain ⟨v, t, rfl, kd, q⟩ := h
    refine ⟨_, pss_one (ps_ret (pe_and (pe_callB call_isi (by rfl) T.isi (by decide +kernel) (pa_cons (pv 0) (pa_cons (pe_bltn (v := .ty "int") (by rfl) T.int (by decide +kernel) rfl) pa_nil)))
      (pe_and (pe_not (pe_callB call_isi (by rfl) T.isi (by decide +kernel) (pa_cons (pv 0) (pa_cons (pe_bltn (v := .ty "bool") (by rfl) T.bool (by decide +kernel) rfl) pa_nil))))
        (pe_one (pe_cmpR op_lt (pe_callB call_abs (by rfl) T.abs (by decide +kernel) (pa_cons (pv 0) pa_nil)) (pe_op op_pow pe_int pe_int) (nomark _)))))), ?_⟩
    refine ⟨_, rfl, v, _, _, _, _, rfl, .ty "int", kd.ty, kit_int kd, _, rfl, ?_⟩
    cases kd with
    | int i => exact iteT ⟨_, rfl, _, _, _, _, _, rfl, .ty "bool", (Kd.int i).ty, kit_bool (Kd.int (H := H) i), _, rfl, _, rfl, iteT ⟨_, rfl, i, rfl, 10, 60, rfl, rfl, c10 (k := 60) (by decide), _, _, rfl, rfl, q⟩⟩
    | bl b => exact iteT ⟨_, rfl, _, _, _, _, _, rfl, .ty "bool", (Kd.bl b).ty, kit_bool (Kd.bl (H := H) b), _, rfl, _, rfl, iteF q⟩
    | _ => exact iteF q
theorem scCount : FnScope ["value"] ["value"] (defScope sCount) := ⟨rfl, rfl, rfl, by decide +kernel, rfl, by decide +kernel, by decide +kernel⟩
/-- the program's own defs that the others call -/
structure Words (K : PySem.W.Frag) (mg : Str → Option Value) (fI fC : Addr) (dI dC : FuncData) : Prop where
  FI : Fun K "is_integer" "is_integer" sInteger fI dI
  bI : Binds K dI ["value"] []
  gI : mg "is_integer" = some (.ref fI)
  FC : Fun K "is_count" "is_count" sCount fC dC
  bC : Binds K dC ["value"] []
  gC : mg "is_count" = some (.ref fC)
variable {fI fC : Addr} {dI dC : FuncData}
theorem ok_count (W : Words K mg fI fC dI dC) (T : Free mg) : FnOk P w K mg base CX0 2 fC dC ["value"] spCount := by
  have GI : FnOk P w K mg base CX0 1 fI dI ["value"] spInt := ok_integer W.FI T
  refine W.FC.ok scCount (fun vs H Q E h => ?_) (fun cdv A outer s H vs Q E hr h => ?_)
  · obtain ⟨v, t, rfl, _⟩ := h
    rfl
  · obtain ⟨v, t, rfl, kd, q⟩ := h
    refine ⟨_, pss_one (ps_ret (pe_and (pe_call GI hr (by rfl) W.gI W.FI.kp W.bI .nil pass0 (pa_cons (pv 0) pa_nil)) (pe_one (pe_cmpR op_ge (pv 0) pe_int (nomark _))))), ?_⟩
    refine ⟨_, rfl, v, t, rfl, kd, _, rfl, ?_⟩
    cases kd with
    | int i =>
      refine ite2 (fun c => ⟨_, rfl, i, _, rfl, rfl, ?_⟩) (fun c => ?_)
      · have e : isCount (.int i) = decide (0 ≤ i) := by
          show (_ && _) = _
          rw [show decide ((if i < 0 then -i else i) < 10 ^ (60 : Int).toNat) = true from c, Bool.true_and]
        rw [e] at q
        exact q
      · have e : isCount (.int i) = false := by
          show (_ && _) = _
          rw [show decide ((if i < 0 then -i else i) < 10 ^ (60 : Int).toNat) = false from Bool.eq_false_iff.mpr c, Bool.false_and]
        rw [e] at q
        exact q
    | _ => exact iteF q
end
end Pr

namespace Pr
open PySem PySem.Spec PyProof.Rows L2
/-! ### the same judges, as names that are never unfolded -/
theorem there_int : ∃ p : V → Bool, p = isInt := ⟨_, rfl⟩
theorem there_count : ∃ p : V → Bool, p = isCount := ⟨_, rfl⟩
noncomputable def isIntO : V → Bool := Classical.choose there_int
noncomputable def isCountO : V → Bool := Classical.choose there_count
theorem isIntO_eq : isIntO = isInt := Classical.choose_spec there_int
theorem isCountO_eq : isCountO = isCount := Classical.choose_spec there_count
def spIntO : Sp := fun vs H Q _ => ∃ (v : V) (t : String), vs = [v] ∧ Kd H v t ∧ Q (.bl (isIntO v)) H
def spCountO : Sp := fun vs H Q _ => ∃ (v : V) (t : String), vs = [v] ∧ Kd H v t ∧ Q (.bl (isCountO v)) H
theorem spIntO_eq : spIntO = spInt := by
  unfold spIntO spInt
  rw [isIntO_eq]
theorem spCountO_eq : spCountO = spCount := by
  unfold spCountO spCount
  rw [isCountO_eq]
theorem nat_countO {n : Nat} (h : n < 10 ^ 60) : isCountO (.int n) = true := by
  rw [isCountO_eq]
  exact nat_count h
section
variable {P : Program} {w : World} {K : PySem.W.Frag} {mg : Str → Option Value} {base : Heap}
theorem ok_integerO {f : Addr} {fd : FuncData} (F : Fun K "is_integer" "is_integer" sInteger f fd) (T : Free mg) : FnOk P w K mg base CX0 1 f fd ["value"] spIntO := by
  rw [spIntO_eq]
  exact ok_integer F T
theorem ok_countO {fI fC : Addr} {dI dC : FuncData} (W : Words K mg fI fC dI dC) (T : Free mg) : FnOk P w K mg base CX0 2 fC dC ["value"] spCountO := by
  rw [spCountO_eq]
  exact ok_count W T
end
end Pr
namespace Pr
open PySem PySem.Spec PyProof.Rows L2 Gd
/-! ### names: by the text's methods, and sign by sign -/
def azC (c : Nat) : Bool := decide (97 ≤ c) && decide (c ≤ 122)
def azB (z : Str) : Bool := decide (1 ≤ z.length) && decide (z.length ≤ 8) && z.cps.toList.all azC
def nameB : V → Bool
  | .str z => azB z
  | _ => false
theorem az_table : ((List.range 128).all fun c => ((Unicode.isAlpha c && !(Unicode.isUpper c || Unicode.isTitle c)) == azC c) && (!azC c || Unicode.isLower c)) = true := by decide +kernel
theorem az_at {c : Nat} (h : c < 128) : (Unicode.isAlpha c && !(Unicode.isUpper c || Unicode.isTitle c)) = azC c ∧ (azC c = true → Unicode.isLower c = true) := by
  have q := List.all_eq_true.mp az_table c (List.mem_range.mpr h)
  rw [Bool.and_eq_true] at q
  refine ⟨eq_of_beq q.1, fun e => ?_⟩
  have q2 := q.2
  rw [e] at q2
  simpa using q2
theorem az_lt {c : Nat} (h : azC c = true) : c < 128 := by
  unfold azC at h
  rw [Bool.and_eq_true] at h
  have := of_decide_eq_true h.2
  omega
/-- the three methods say what the signs say -/
theorem by_methods {z : Str} (h8 : z.length ≤ 8) : (Txt.isascii z && (Txt.isalpha z && Txt.islower z)) = azB z := by
  obtain ⟨⟨l⟩⟩ := z
  have hl : l.length ≤ 8 := h8
  have e1 : Txt.isascii ⟨⟨l⟩⟩ = l.all (· < 128) := by simp [Txt.isascii]
  have e2 : Txt.isalpha ⟨⟨l⟩⟩ = (decide (0 < l.length) && l.all Unicode.isAlpha) := by
    unfold Txt.isalpha
    simp [Str.length]
  have e3 : Txt.islower ⟨⟨l⟩⟩ = (l.any Unicode.isLower && !l.any fun c => Unicode.isUpper c || Unicode.isTitle c) := by simp [Txt.islower]
  have e4 : azB ⟨⟨l⟩⟩ = (decide (1 ≤ l.length) && decide (l.length ≤ 8) && l.all azC) := rfl
  rw [e1, e2, e3, e4, decide_eq_true hl, Bool.and_true]
  apply Bool.eq_iff_iff.mpr
  simp only [Bool.and_eq_true, List.all_eq_true, decide_eq_true_eq, Bool.not_eq_true', List.any_eq_false, List.any_eq_true]
  constructor
  · rintro ⟨a, ⟨b, c⟩, d, e⟩
    refine ⟨b, fun x m => ?_⟩
    rw [← (az_at (a x m)).1, c x m, Bool.true_and]
    have := e x m
    simpa using this
  · rintro ⟨a, b⟩
    have lt : ∀ x ∈ l, x < 128 := fun x m => az_lt (b x m)
    have both : ∀ x ∈ l, Unicode.isAlpha x = true ∧ (Unicode.isUpper x || Unicode.isTitle x) = false := fun x m => by
      have q := (az_at (lt x m)).1
      rw [b x m, Bool.and_eq_true] at q
      exact ⟨q.1, by simpa using q.2⟩
    refine ⟨lt, ⟨a, fun x m => (both x m).1⟩, ?_, fun x m => by rw [(both x m).2]; simp⟩
    cases l with
    | nil => simp at a
    | cons x r => exact ⟨x, List.mem_cons_self, (az_at (lt x List.mem_cons_self)).2 (b x List.mem_cons_self)⟩
def spName : Sp := fun vs H Q _ => ∃ (v : V) (t : String), vs = [v] ∧ Kd H v t ∧ (∀ z, v = .str z → z.length ≤ 1000000) ∧ Q (.bl (nameB v)) H
theorem kit_str {K : PySem.W.Frag} {H : Hp} {v : V} {t : String} (k : Kd H v t) : PySem.W.kitOne K (.type t) (.type "str") = some (match v with | .str _ => true | _ => false) := by
  cases k <;> first | exact kit_ty (r := true) (by decide +kernel) | exact kit_ty (r := false) (by decide +kernel)
/-- a list's address (or any other's) is no text -/
theorem nameB_not {H : Hp} {v : V} {t : String} (k : Kd H v t) (h : ∀ z, v ≠ .str z) : nameB v = false := by
  cases k with
  | str z => exact absurd rfl (h z)
  | _ => rfl
section
variable {P : Program} {w : World} {K : PySem.W.Frag} {mg : Str → Option Value} {base : Heap}
theorem scName : FnScope ["value"] ["value"] (defScope sName) := ⟨rfl, rfl, rfl, by decide +kernel, rfl, by decide +kernel, by decide +kernel⟩
theorem ok_name {f : Addr} {fd : FuncData} {tk : Tok} (F : Fun K "is_name" "is_name" sName f fd) (T : Free mg) (gm : mg "MAX_LETTERS" = some (.int 8 tk)) : FnOk P w K mg base CX0 1 f fd ["value"] spName := by
  refine F.ok scName (fun vs H Q E h => ?_) (fun cdv A outer s H vs Q E hr h => ?_)
  · obtain ⟨v, t, rfl, _⟩ := h
    rfl
  · obtain ⟨v, t, rfl, kd, hz, q⟩ := h
    refine ⟨_, pss_cons (ps_if (PW.pt (pw_or (pt_not (pt_val (pe_callB call_isi (by rfl) T.isi (by decide +kernel) (pa_cons (pv 0) (pa_cons (pe_bltn (v := .ty "str") (by rfl) T.str (by decide +kernel) rfl) pa_nil)))))
        (pw_or1 (pt_cmpR op_gt (pe_callB call_len_str (by rfl) T.len PySem.boot_len (pa_cons (pv 0) pa_nil)) (pe_glob (v := .int 8) (by rfl) gm ⟨_, rfl⟩) (nomark _))))) (pss_one (ps_ret pe_bl)) pss_nil)
      (pss_one (ps_ret (pe_and (pe_bm0 PySem.F.plainAttrs_str PySem.F.slot_str_isascii PySem.F.type_str_isascii mt_isascii (pv 0))
        (pe_and (pe_bm0 PySem.F.plainAttrs_str PySem.F.slot_str_isalpha PySem.F.type_str_isalpha mt_isalpha (pv 0))
          (pe_one (pe_bm0 PySem.F.plainAttrs_str PySem.F.slot_str_islower PySem.F.type_str_islower mt_islower (pv 0))))))), ?_⟩
    refine ⟨_, rfl, v, _, _, _, _, rfl, .ty "str", kd.ty, kit_str kd, _, rfl, ?_⟩
    cases kd with
    | str z =>
      have l := hz z rfl
      refine iteF ⟨_, rfl, z, rfl, by rw [sizeLine_eq]; omega, _, _, rfl, rfl, _, rfl, ite2 (fun c => ?_) (fun c => ?_)⟩
      · have e : nameB (.str z) = false := by
          have c' := of_decide_eq_true c
          show (_ && _ && _) = false
          rw [decide_eq_false (show ¬ z.length ≤ 8 by omega), Bool.and_false, Bool.false_and]
        rw [e] at q
        exact q
      · have c' : ¬ (8 : Int) < z.length := fun h => c (decide_eq_true h)
        have e : nameB (.str z) = (Txt.isascii z && (Txt.isalpha z && Txt.islower z)) := (by_methods (by omega)).symm
        rw [e] at q
        refine ⟨_, rfl, rfl, z, rfl, rfl, trivial, _, rfl, ite2 (fun c1 => ?_) (fun c1 => ?_)⟩
        · rw [c1, Bool.true_and] at q
          refine ⟨_, rfl, rfl, z, rfl, rfl, trivial, _, rfl, ite2 (fun c2 => ?_) (fun c2 => ?_)⟩
          · rw [c2, Bool.true_and] at q
            exact ⟨_, rfl, rfl, z, rfl, rfl, trivial, q⟩
          · rw [Bool.eq_false_iff.mpr c2, Bool.false_and] at q
            exact q
        · rw [Bool.eq_false_iff.mpr c1, Bool.false_and] at q
          exact q
    | _ => exact iteT (iteT q)
end
/-! ### a list beside the empty one -/
def rEqE (K : PySem.W.Frag) : R2 := fun x y H Q => ∃ a b xs, x = .ref a ∧ y = .ref b ∧ SqL K H a xs ∧ SqL K H b [] ∧ Q (.bl xs.isEmpty) H
theorem op_eqE {X : Cx} (hu : X.A.units + 64 < cLine) : OpR X (compareOp .Eq) (rEqE X.K) := by
  intro pins s σ H x y v u Q I rx ry h
  obtain ⟨a, b, xs, rfl, rfl, ha, hb, q⟩ := h
  cases (show v = Value.ref a from rx)
  cases (show u = Value.ref b from ry)
  obtain ⟨us, r1, p1, _⟩ := I.list ha
  obtain ⟨ws, r2, p2, _⟩ := I.list hb
  have l2 : ws.length = 0 := r2.length.symm
  have l1 : us.length = xs.length := r1.length.symm
  cases xs with
  | nil =>
    have hsz : us.toArray.size = ws.toArray.size := by
      rw [List.size_toArray, List.size_toArray, l1, l2]
      rfl
    have z := SeqAt.RcAt.lists (e := fun _ => true) p1.isList p2.isList hsz (A := X.A) (s := s) (by omega) (fun j h1 h2 => by
      rw [List.size_toArray, l1] at h1
      exact absurd h1 (Nat.not_lt_zero _))
    rw [show ((List.range us.toArray.size).all fun _ => true) = true from List.all_eq_true.mpr fun _ _ => rfl] at z
    exact z X.prog X.w _ _ ⟨.bl true, H, I, rfl, q⟩
  | cons x r =>
    have hsz : (us.toArray.size != ws.toArray.size) = true := by
      rw [List.size_toArray, List.size_toArray, l1, l2]
      rfl
    exact SeqAt.RcAt.lists_lengths p1.isList p2.isList hsz (A := X.A) (s := s) (by omega) X.prog X.w _ _ ⟨.bl false, H, I, rfl, q⟩
/-- a comprehension over the signs of a text -/
theorem lc_signs {x : Str} {g : TG} {tt : TT} {te : TE} {vs : List Nat} {σ : L2.St} {H1 : Hp} {D : Addr} {Qd : Hp → Prop} (Pv : Nat → Hp → Prop) (h0 : Pv 0 (upd H1 D (.lst [])))
    (hs : ∀ i c H, x.cps[i]? = some c → Pv i H → g (.str ⟨#[c]⟩) (wipe σ vs) H fun σ2 H2 => wipe σ2 vs = wipe σ vs ∧ tt σ2 H2 fun b H3 =>
      if b = true then te σ2 H3 fun y H4 => ∃ acc, H4 D = some (.lst acc) ∧ acc.length < sizeLine ∧ Pv (i + 1) (upd H4 D (.lst (acc ++ [y]))) else Pv (i + 1) H3) (hd : ∀ H, Pv x.cps.size H → Qd H) :
    ∃ W : Nat → Nat → Hp → Prop, (∃ m, W 0 m (upd H1 D (.lst []))) ∧ ∀ i m H, W i m H →
      ((Its x).stop i H ∧ Qd H) ∨ ((Its x).go i H ∧ ∃ Nx : Hp → Prop, (∀ H', Nx H' → ∃ m', m' < m ∧ W (i + 1) m' H') ∧ ∀ y H', (Its x).yld i H y H' → g y (wipe σ vs) H' fun σ2 H2 => wipe σ2 vs = wipe σ vs ∧ tt σ2 H2 fun b H3 =>
        if b = true then te σ2 H3 fun y H4 => ∃ acc, H4 D = some (.lst acc) ∧ acc.length < sizeLine ∧ Nx (upd H4 D (.lst (acc ++ [y]))) else Nx H3) := by
  refine ⟨fun i m H => m = x.cps.size - i ∧ i ≤ x.cps.size ∧ Pv i H, ⟨x.cps.size, by simp, Nat.zero_le _, h0⟩, ?_⟩
  rintro i m H ⟨rfl, hi, p⟩
  rcases Nat.lt_or_ge i x.cps.size with lt | ge
  · refine .inr ⟨lt, Pv (i + 1), fun H' p' => ⟨x.cps.size - (i + 1), by omega, rfl, lt, p'⟩, fun y H' h => ?_⟩
    obtain ⟨rfl, c, hc, rfl⟩ := h
    exact hs i c _ hc p
  · obtain rfl : i = x.cps.size := Nat.le_antisymm hi ge
    exact .inl ⟨Nat.le_refl _, hd H p⟩
end Pr
namespace Pr
open PySem PySem.Spec PyProof.Rows L2 Gd
/-! ### is_whole -/
/-- the arity of a word that is one -/
def arity (l : List (Str × Nat)) : V → Option Int
  | .str z => (match valV (dkv l) (.inr z : Key) with
    | some (.int a) => some a
    | _ => none)
  | _ => none
/-- whether xs are n trees, one behind the other -/
def wgo (l : List (Str × Nat)) : Int → List V → Bool
  | n, [] => decide (n = 0)
  | n, x :: xs => if n = 0 then false else match arity l x with
    | some a => wgo l (n + (a - 1)) xs
    | none => false
theorem wgo_zero {l : List (Str × Nat)} {n : Int} {x : V} {xs : List V} (h : n = 0) : wgo l n (x :: xs) = false := if_pos h
theorem wgo_none {l : List (Str × Nat)} {n : Int} {x : V} {xs : List V} (h : arity l x = none) : wgo l n (x :: xs) = false := by
  show (if n = 0 then false else match arity l x with | some a => wgo l (n + (a - 1)) xs | none => false) = false
  rw [h]
  exact ite_self _
theorem wgo_some {l : List (Str × Nat)} {n a : Int} {x : V} {xs : List V} (h0 : n ≠ 0) (h : arity l x = some a) : wgo l n (x :: xs) = wgo l (n + (a - 1)) xs := by
  show (if n = 0 then false else match arity l x with | some a => wgo l (n + (a - 1)) xs | none => false) = _
  rw [if_neg h0, h]
theorem val_int {z : Str} {v : V} : ∀ {l : List (Str × Nat)}, valV (dkv l) (.inr z : Key) = some v → ∃ a, v = .int a
  | [], h => nomatch h
  | p :: l, h => by
    have h' : valV ((.inr p.1, .int (p.2 : Int)) :: dkv l) (.inr z : Key) = some v := h
    by_cases e : (.inr p.1 : Key) = .inr z
    · rw [valV_pos e] at h'
      exact ⟨_, (Option.some.inj h').symm⟩
    · rw [valV_neg e] at h'
      exact val_int h'
def spWhole : Sp := fun vs H Q _ => ∃ (t a : Addr) (xs : List V) (l : List (Str × Nat)), vs = [.ref t, .ref a] ∧ H t = some (.tup xs) ∧ (∀ x ∈ xs, ∃ ty, Kd H x ty) ∧ H a = some (.dK (dkv l)) ∧ Q (.bl (wgo l 1 xs)) H
section
variable {P : Program} {w : World} {K : PySem.W.Frag} {mg : Str → Option Value} {base : Heap}
theorem scWhole : FnScope ["words", "arities", "awaited", "word"] ["words", "arities"] (defScope sWhole) := ⟨rfl, rfl, rfl, by decide +kernel, rfl, by decide +kernel, by decide +kernel⟩
theorem ok_whole {f : Addr} {fd : FuncData} (F : Fun K "is_whole" "is_whole" sWhole f fd) (T : Free mg) : FnOk P w K mg base CX0 1 f fd ["words", "arities"] spWhole := by
  refine F.ok scWhole (fun vs H Q E h => ?_) (fun cdv A outer s H vs Q E hr h => ?_)
  · obtain ⟨t, a, xs, l, rfl, _⟩ := h
    rfl
  · obtain ⟨t, a, xs, l, rfl, ht, all, ha, q⟩ := h
    have hu := hr.units
    have hu1 : ∀ {u : Nat}, u + 64 < cLine → u + 1 < cLine := fun h => by omega
    refine ⟨_, pss_cons (ps_set (i := 2) scWhole.nd rfl (.inl rfl) pe_int) (pss_cons (ps_for PassesOwn.never rfl (pi_tup (pv 0)) (pg_name (i := 3) scWhole.nd rfl (.inl rfl)) (pss_cons (ps_if (PW.pt (pw_or (pt_cmpR op_eq (pv 2) pe_int (nomark _)) (pw_or (pt_not (pt_val (pe_callB call_isi (by rfl) T.isi (by decide +kernel) (pa_cons (pv 3) (pa_cons (pe_bltn (v := .ty "str") (by rfl) T.str (by decide +kernel) rfl) pa_nil))))) (pw_or1 (pt_cmp (pc_dnotin (hu1 hu) (pv 3) (pv 1))))))) (pss_one (ps_ret pe_bl)) pss_nil) (pss_one (ps_aug (i := 2) scWhole.nd rfl (.inl rfl) (pe_op op_sub (pe_dget (hu1 hu) (pv 1) (pv 3) (fun _ _ => rfl)) pe_int) ip_add)))) (pss_one (ps_ret (pe_cmpR op_eq (pv 2) pe_int (nomark _))))), ?_⟩
    refine ⟨_, rfl, t, rfl, ⟨_, SqT.of ht⟩, ?_⟩
    refine for_tup (K := K) (a := t) (xs := xs) (fun i σ H' => H' = H ∧ ∃ (n : Int) (v3 : Option V), σ = [some (.ref t), some (.ref a), some (.int n), v3] ∧ wgo l 1 xs = wgo l n (xs.drop i))
      ⟨rfl, 1, none, rfl, rfl⟩ (fun i σ H' _ ⟨e, _⟩ => by rw [e]; exact SqT.of ht) ?_ ?_
    · rintro i x σ H' hx ⟨rfl, n, v3, rfl, hw⟩
      have hd : xs.drop i = x :: xs.drop (i + 1) := by
        obtain ⟨hi, e⟩ := List.getElem?_eq_some_iff.mp hx
        rw [← e]
        exact List.drop_eq_getElem_cons hi
      obtain ⟨ty, kd⟩ := all x (List.mem_of_getElem? hx)
      rw [hd] at hw
      refine ⟨_, rfl, rfl, _, rfl, ?_⟩
      by_cases c : n = 0
      · refine if_true_of (decide_eq_true (by rw [c])) ?_
        rw [hw, wgo_zero c] at q
        exact q
      · refine if_false_of (decide_eq_false fun z => c (V.int.inj z)) ⟨_, rfl, x, _, _, _, _, rfl, .ty "str", kd.ty, kit_str kd, _, rfl, ?_⟩
        cases kd with
        | str z =>
          refine if_false_of rfl ⟨_, rfl, _, rfl, a, _, rfl, DGet.k (k := .inr z) ha, _, rfl, ?_⟩
          cases e : valV (dkv l) (.inr z : Key) with
          | none =>
            refine if_true_of rfl ?_
            have an : arity l (.str z) = none := by
              show (match valV (dkv l) (.inr z : Key) with | some (.int a) => some a | _ => none) = none
              rw [e]
            rw [hw, wgo_none an] at q
            exact q
          | some v =>
            obtain ⟨a1, rfl⟩ := val_int e
            have an : arity l (.str z) = some a1 := by
              show (match valV (dkv l) (.inr z : Key) with | some (.int a) => some a | _ => none) = some a1
              rw [e]
            refine if_false_of rfl ⟨_, rfl, _, rfl, _, rfl, a, _, rfl, e ▸ DGet.k (k := .inr z) ha, _, _, rfl, rfl, _, _, rfl, rfl, rfl, _, _, rfl, ?_⟩
            rw [hw, wgo_some c an]
        | _ =>
          refine if_true_of rfl ?_
          rw [hw, wgo_none rfl] at q
          exact q
    · rintro σ H' ⟨rfl, n, v3, rfl, hw⟩
      rw [List.drop_of_length_le (Nat.le_refl _)] at hw
      refine ⟨_, rfl, rfl, ?_⟩
      have e : decide (V.int n = V.int 0) = wgo l 1 xs := by
        rw [hw]
        show _ = decide (n = 0)
        rw [dec_int]
        by_cases c : n = 0 <;> simp [c]
      rw [e]
      exact q
end
end Pr

namespace Pr
open PySem PySem.Spec PyProof.Rows L2 Gd
/-! ### operators that are let -/
structure OpsOk (l : List (Str × Nat)) : Prop where
  few : 1 ≤ l.length ∧ l.length ≤ 8
  nd : (l.map (·.1)).Nodup
  name : ∀ p ∈ l, azB p.1 = true
  two : ∀ p ∈ l, p.2 ≤ 2
theorem Ars.ok {l : List (Str × Nat)} (h : Ars l) : OpsOk l := by
  refine ⟨by have := h.few; omega, h.nd, fun p m => ?_, h.two⟩
  have t : ∀ z ∈ Pr.pool, azB z = true := by decide +kernel
  exact t _ (h.pool p m)
theorem val_at {l : List (Str × Nat)} {i : Nat} {k : Key} {v : V} (h : (dkv l)[i]? = some (k, v)) : ∃ p, l[i]? = some p ∧ k = .inr p.1 ∧ v = .int (p.2 : Int) := by
  unfold dkv at h
  rw [List.getElem?_map] at h
  cases e : l[i]? with
  | none => rw [e] at h; cases h
  | some p =>
    rw [e] at h
    cases (Option.some.inj h)
    exact ⟨p, rfl, rfl, rfl⟩
theorem isInt_small {n : Nat} (h : n ≤ 2) : isIntO (.int (n : Int)) = true := by
  rw [isIntO_eq]
  show decide ((if (n : Int) < 0 then -(n : Int) else n) < 10 ^ (60 : Int).toNat) = true
  have e : ((10 : Int) ^ (60 : Int).toNat) = ((10 ^ 60 : Nat) : Int) := by decide +kernel
  rw [if_neg (by omega), e, decide_eq_true (by omega)]
def spAre : Sp := fun vs H Q _ => ∃ (a : Addr) (l : List (Str × Nat)), vs = [.ref a] ∧ H a = some (.dK (dkv l)) ∧ OpsOk l ∧ ∀ H', Same H H' → Q (.bl true) H'
section
variable {P : Program} {w : World} {K : PySem.W.Frag} {mg : Str → Option Value} {base : Heap} {fI fN : Addr} {dI dN : FuncData} {tk tk2 : Tok}
theorem scAre : FnScope ["value", "name"] ["value"] (defScope sAre) := ⟨rfl, rfl, rfl, by decide +kernel, rfl, by decide +kernel, by decide +kernel⟩
theorem ok_are {f : Addr} {fd : FuncData} (F : Fun K "are_arities" "are_arities" sAre f fd) (T : Free mg) (gm : mg "MAX_LETTERS" = some (.int 8 tk)) (gm2 : mg "MAX_OPERATORS" = some (.int 8 tk2)) (FN : Fun K "is_name" "is_name" sName fN dN) (bN : Binds K dN ["value"] []) (gN : mg "is_name" = some (.ref fN))
    (FI : Fun K "is_integer" "is_integer" sInteger fI dI) (bI : Binds K dI ["value"] []) (gI : mg "is_integer" = some (.ref fI)) : FnOk P w K mg base CX0 2 f fd ["value"] spAre := by
  have GN : FnOk P w K mg base CX0 1 fN dN ["value"] spName := ok_name FN T gm
  have GI : FnOk P w K mg base CX0 1 fI dI ["value"] spIntO := ok_integerO FI T
  refine F.ok scAre (fun vs H Q E h => ?_) (fun cdv A outer s H vs Q E hr h => ?_)
  · obtain ⟨a, l, rfl, _⟩ := h
    rfl
  · obtain ⟨a, l, rfl, ha, ok, q⟩ := h
    have hu := hr.units
    have hu1 : ∀ {u : Nat}, u + 64 < cLine → u + 1 < cLine := fun h => by omega
    refine ⟨_, pss_cons (ps_if (PW.pt (pw_or (pt_not (pt_val (pe_callB call_isi (by rfl) T.isi (by decide +kernel) (pa_cons (pv 0) (pa_cons (pe_bltn (v := .ty "dict") (by rfl) T.dict (by decide +kernel) rfl) pa_nil))))) (pw_or1 (pt_not (pt_chain op_le op_le pe_int (pe_callB call_lenD (by rfl) T.len PySem.boot_len (pa_cons (pv 0) pa_nil)) (pe_glob (v := .int 8) (by rfl) gm2 ⟨_, rfl⟩)))))) (pss_one (ps_ret pe_bl)) pss_nil) (pss_one (ps_ret (pe_callB (cr_all rfl) (by rfl) T.all (by decide +kernel) (pa_cons (pe_lock (pe_lc (own := [("name", 1)]) (g := gName 1) (by rfl) scAre.nd (pi_keys (pv 0)) (blkOk_by (own := [("name", 1)]) (N := ["value", "name"]) (sc := defScope sAre) (by decide +kernel)) (fun _ _ _ _ _ => pg_name (i := 1) scAre.nd rfl (Or.inl rfl)) (fun _ _ _ _ _ => pts_nil) (fun _ _ _ _ _ => pe_and (pe_call GN hr (by rfl) gN FN.kp bN .nil pass0 (pa_cons (pv 1) pa_nil)) (pe_and (pe_call GI hr (by rfl) gI FI.kp bI .nil pass0 (pa_cons (pe_dget (hu1 hu) (pv 0) (pv 1) (fun _ _ => rfl)) pa_nil)) (pe_one (pe_chain op_le op_le pe_int (pe_dget (hu1 hu) (pv 0) (pv 1) (fun _ _ => rfl)) pe_int)))))) pa_nil)))), ?_⟩
    have few := ok.few
    have ln : (dkv l).length = l.length := List.length_map _
    refine ⟨_, rfl, .ref a, _, _, _, true, rfl, .ty "dict", (Kd.dK ha).ty, kit_ty (r := true) (by decide +kernel), _, rfl, iteF ⟨_, rfl, a, _, rfl, ha, _, _, rfl, rfl, _, rfl, ?_⟩⟩
    refine if_true_of (decide_eq_true (by rw [ln]; omega)) ⟨_, _, rfl, rfl, _, rfl, ?_⟩
    have e8 : decide (((dkv l).length : Int) ≤ 8) = true := decide_eq_true (by rw [ln]; omega)
    rw [e8]
    refine if_false_of rfl ?_
    refine ⟨a, _, ha, trivial, fun od => ⟨_, rfl, a, od, rfl, .inl ⟨dkv l, upd_same, fun D nD => ?_⟩⟩⟩
    have aD : a ≠ D := ne_of_none upd_same nD
    have nHD : H D = none := by
      rw [upd_ne aD.symm] at nD
      exact nD
    refine lc_it walk_keys (fun i G => G D = some (.lst ((l.take i).map fun _ => V.bl true)) ∧ G a = some (.frz od (.dK (dkv l))) ∧ ∀ b u, b ≠ a → H b = some u → G b = some u) ⟨upd_same, by rw [upd_ne aD, upd_same], fun b u nb e => by rw [upd_ne (ne_of_none e nHD), upd_ne nb]; exact e⟩
      (fun i G _ ⟨_, h, _⟩ => h) ?_ ?_
    · rintro i x G G' hi ⟨eD, eA, sm⟩ ⟨rfl, k, v, hk, rfl⟩
      obtain ⟨p, hp, rfl, rfl⟩ := val_at hk
      have mp := List.mem_of_getElem? hp
      have vz := val_some ok.nd (show (p.1, p.2) ∈ l from mp)
      have dg : DGet G' a (kV (.inr p.1 : Key)) (some (.int (p.2 : Int))) := vz ▸ (.inl ⟨dkv l, .inr p.1, .inr ⟨od, eA⟩, rfl, rfl⟩)
      have two := ok.two p mp
      have nm : nameB (.str p.1) = true := ok.name p mp
      have z8 : p.1.length ≤ 1000000 := by
        have h := ok.name p mp
        have h2 : (decide (1 ≤ p.1.length) && decide (p.1.length ≤ 8) && p.1.cps.toList.all azC) = true := h
        simp only [Bool.and_eq_true, decide_eq_true_eq] at h2
        omega
      have isi := isInt_small two
      have e2 : decide ((p.2 : Int) ≤ 2) = true := decide_eq_true (by omega)
      refine ⟨rfl, _, rfl, .str p.1, "str", rfl, .str p.1, fun z e => by cases e; exact z8, _, rfl, if_true_of nm ⟨_, rfl, _, rfl, a, _, rfl, dg, .int (p.2 : Int), "int", rfl, .int _, _, rfl, if_true_of isi ⟨_, rfl, _, rfl, a, _, rfl, dg, _, _, rfl, rfl, _, rfl, if_true_of (decide_eq_true (by omega)) ⟨_, _, rfl, rfl, ?_⟩⟩⟩⟩
      refine ⟨_, eD, ?_, ?_, by rw [upd_ne aD]; exact eA, fun b u nb e => by rw [upd_ne (ne_of_none e nHD)]; exact sm b u nb e⟩
      · have := (List.getElem?_eq_some_iff.mp hp).1
        rw [List.length_map, List.length_take, sizeLine_eq]
        omega
      · rw [upd_same, List.take_add_one, hp, List.map_append]
        show some (HO.lst (_ ++ [V.bl (decide ((p.2 : Int) ≤ 2))])) = _
        rw [e2]
        rfl
    · rintro G ⟨eD, eA, sm⟩
      refine ⟨eA, D, l.map fun _ => true, rfl, SqL.of ?_, ?_⟩
      · rw [upd_ne aD.symm, eD, ln, List.take_of_length_le (Nat.le_refl _), List.map_map]
        rfl
      · have e : (l.map fun _ => true).all id = true := by simp
        rw [e]
        refine q _ fun b u hb => ?_
        by_cases c : b = a
        · rw [c] at hb ⊢
          rw [upd_same, ← ha, hb]
        · rw [upd_ne c]
          exact sm b u c hb
end
end Pr

/-! ### list(d.values()) -/
namespace Lv
open PySem PySem.Spec PyProof.Rows L2
def tListVals (te : TE) : TE := fun σ H Q => te σ H fun x H1 => ∃ (d : Addr) (kvs : List (Key × V)), x = .ref d ∧ H1 d = some (.dK kvs) ∧ ∀ p, H1 p = none → Q (.ref p) (upd H1 p (.lst (kvs.map (·.2))))
theorem vals_snd {kvs : List (Key × V)} {vs : List (Key × Value)} (r : KV kvs vs) : Vals (kvs.map (·.2)) (vs.map (·.2)) := by
  unfold KV at r
  induction r with
  | nil => exact .nil
  | cons r t ih => exact .cons r.2 ih
section
variable {X : Cx} {e : Expr} {te : TE} {p apos cpos pos : Pos}
theorem pe_listVals (hc : X.calm = true) (he : PE X e te) (hg : Gl X "list") (hm : X.mg "list" = none) (hv : bootBuiltins "list" = some (.type "list")) (hbase : attributeBase e "values" X.env (eval e X.env) = eval e X.env := by rfl) (hline : (apos.endLine == cpos.line) = true := by rfl)
    (hs : starEach [.Call (.Attribute e "values" apos) [] [] cpos] X.env = (false, eval (.Call (.Attribute e "values" apos) [] [] cpos) X.env) :: starEach [] X.env := by rfl) :
    PE X (.Call (.Name "list" p) [.Call (.Attribute e "values" apos) [] [] cpos] [] pos) (tListVals te) := by
  refine ⟨fun pins s σ H Q I hq => ?_⟩
  refine wpAny_Call_Name_kw (ld_blt I hg hm hv ?_)
  refine PyProof.Rows.callWith_type1 ?_ hs rfl
  rw [hs]
  show wpAny _ _ (spliced ((false, eval (.Call (.Attribute e "values" apos) [] [] cpos) X.env) :: backTo pos (starEach [] X.env))) _ _ s
  refine Calls.spliced_cons ?_
  refine wpAny_Call_method (T := "dict") (id := "dict.values") hbase rfl hline F.plainAttrs_dict F.slot_dict_values F.type_dict_values (thn (he.run pins s σ H _ I hq) fun u s1 ⟨x, H1, I1, rx, d, kvs, ex, hd, q⟩ => ?_)
  subst ex
  obtain rfl : u = Value.ref d := rx
  obtain ⟨hz, hs0, vs, kv, hdo⟩ := I1.hok d _ hd
  obtain ⟨ep, hat⟩ := hdo.dictAt
  have lk : kvs.length = vs.length := Paired.length kv
  have I2 : Inv X pins σ H1 { s1 with heap := s1.heap.push { cls := .type "dict_values", data := .fields #[.ref d] } } := I1.kept (t' := s1.toks) fun b ob q => Heap.get?_push_of_some _ q
  refine ⟨hdo.typeIs, hdo.mapOf.noDict, ?_⟩
  show wpAny _ _ (callWith cpos (.builtin "dict.values") [.ref d] [] []) _ X.xe s1
  refine method_meetsIn F.slot_dict_values F.entry_dict_values rfl (PySem.evalArgs_none ⟨rfl, hdo.typeIs, F.args_dict_values_1 _, _, meets_dict_values (mixKind X.prog X.w) d hs0, ⟨vs, hdo⟩, ?_⟩)
  refine Calls.spliced_nil ?_
  refine PySem.W.kdl_call (PySem.W.kdl_values (knd := mixKind X.prog X.w) (kvs := vs) (ep := ep)) (I1.ok.hd hc) ⟨⟨_, Heap.get?_push_size _ rfl, rfl, rfl⟩, hat.push _⟩ (by omega) fun h' tk acc c hk hS hacc => ?_
  have ev : acc.toList = vs.map (·.2) := PySem.W.kdl_vals_eq acc.toList (by rw [Array.length_toList]; exact hacc.1) fun j v e => hacc.2 j v (by rw [← Array.getElem?_toList]; exact e)
  refine ⟨.ref _, _, I2.laid (o := .lst (kvs.map (·.2))) (t' := tk) hk (Nat.le_refl _) ⟨by rw [List.length_map]; omega, vs.map (·.2), c, vals_snd kv, ?_⟩, rfl, q _ (I2.hok.fresh (Nat.le_refl _))⟩
  rw [← ev, Array.toArray_toList]
  exact hS
end
end Lv
namespace Pr
open PySem PySem.Spec PyProof.Rows L2 Gd
/-! ### Operators(arities) -/
/-- what is known of the class -/
structure OpF (K : PySem.W.Frag) (C : Addr) : Prop where
  cls : Cls K C
  n1 : NoAttr K C "_names"
  n2 : NoAttr K C "_arities"
  n3 : NoAttr K C "_lines"
  n4 : NoAttr K C "_many"
  n5 : NoAttr K C "_counts"
  n6 : NoAttr K C "_rows"
/-- operators over l at o -/
structure OpsAt (H : Hp) (C o : Addr) (l : List (Str × Nat)) : Prop where
  ex : ∃ (dx tn ta : Addr) (tl : Addr × Addr × Addr × Addr), H o = some (.ins C dx [("_names", .ref tn), ("_arities", .ref ta), ("_lines", .ref tl.1), ("_many", .ref tl.2.1), ("_counts", .ref tl.2.2.1), ("_rows", .ref tl.2.2.2)]) ∧ H tn = some (.tup (l.map fun p => V.str p.1)) ∧ H ta = some (.dK (dkv l))
theorem OpsAt.same {H H' : Hp} {C o : Addr} {l : List (Str × Nat)} (h : OpsAt H C o l) (s : Same H H') : OpsAt H' C o l :=
  let ⟨dx, tn, ta, tl, a, b, c⟩ := h.ex
  ⟨dx, tn, ta, tl, s _ _ a, s _ _ b, s _ _ c⟩
abbrev t_line : TE := fun σ H Q => tJs [tC (V.str "op "), tFmt (tVar 2), tC (V.str " "), tFmt (tDGet (tVar 1) (tVar 2))] Str.empty σ H fun out H1 => Q (V.str out) H1
/-- a statement that isn't met -/
def tNever : TS := fun _ _ _ => False
theorem ps_never {X : Cx} {st : Stmt} : PS X st tNever := ⟨fun _ _ _ _ _ _ h => False.elim h⟩
def spInit (C : Addr) : Sp := fun vs H Q _ => ∃ (x dx a : Addr) (l : List (Str × Nat)), vs = [.ref x, .ref a] ∧ H x = some (.ins C dx []) ∧ H a = some (.dK (dkv l)) ∧ OpsOk l ∧
  ∀ (l' : List (Str × Nat)) (H' : Hp), l'.Perm l → Kp x H H' → OpsAt H' C x l' → Q .non H'
section
variable {P : Program} {w : World} {K : PySem.W.Frag} {mg : Str → Option Value} {base : Heap} {C fA : Addr} {dA : FuncData}
theorem scInit : FnScope ["self", "arities", "name", "told"] ["self", "arities"] (defScope mInit) := ⟨rfl, rfl, rfl, by decide +kernel, rfl, by decide +kernel, by decide +kernel⟩
theorem ok_init {f : Addr} {fd : FuncData} (F : Fun K "__init__" "Operators.__init__" mInit f fd) (T : Free mg) (CF : OpF K C) (GA : FnOk P w K mg base CX0 2 fA dA ["value"] spAre) (FA : Fun K "are_arities" "are_arities" sAre fA dA) (bA : Binds K dA ["value"] []) (gA : mg "are_arities" = some (.ref fA)) :
    FnOk P w K mg base CX0 3 f fd ["self", "arities"] (spInit C) := by
  refine F.ok scInit (fun vs H Q E h => ?_) (fun cdv A outer s H vs Q E hr h => ?_)
  · obtain ⟨x, dx, a, l, rfl, _⟩ := h
    rfl
  · obtain ⟨x, dx, a, l, rfl, hx, ha, ok, q0⟩ := h
    have hu := hr.units
    have hu1 : ∀ {u : Nat}, u + 64 < cLine → u + 1 < cLine := fun h => by omega
    refine ⟨_, pss_cons (ps_if (pt_not (pt_val (pe_call GA hr (by rfl) gA FA.kp bA .nil pass0 (pa_cons (pv 1) pa_nil)))) (pss_one ps_never) pss_nil) (pss_cons (ps_fld (pv 0) (pe_callTy call_tuple_of (by rfl) T.tuple (by decide +kernel) (pa_cons (pe_callB (call_sortedD (by rfl)) (by rfl) T.sorted (by decide +kernel) (pa_cons (pv 1) pa_nil)) pa_nil)) rfl) (pss_cons (ps_fld (pv 0) (pe_dc (own := [("name", 2)]) (g := gName 2) (by rfl) scInit.nd (pi_tup (pe_fld (pv 0) rfl)) (blkOk_by (own := [("name", 2)]) (N := ["self", "arities", "name", "told"]) (sc := defScope mInit) (by decide +kernel)) (fun _ _ _ _ _ => pg_name (i := 2) scInit.nd rfl (Or.inl rfl)) (fun _ _ _ _ _ => pts_nil) (fun _ _ _ _ _ => pv 2) (fun _ _ _ _ _ => pe_dget (hu1 hu) (pv 1) (pv 2) (fun _ _ => rfl))) rfl) (pss_cons (ps_fld (pv 0) (pe_callTy call_tuple_of (by rfl) T.tuple (by decide +kernel) (pa_cons (pe_lc (own := [("name", 2)]) (g := gName 2) (by rfl) scInit.nd (pi_tup (pe_fld (pv 0) rfl)) (blkOk_by (own := [("name", 2)]) (N := ["self", "arities", "name", "told"]) (sc := defScope mInit) (by decide +kernel)) (fun _ _ _ _ _ => pg_name (i := 2) scInit.nd rfl (Or.inl rfl)) (fun _ _ _ _ _ => pts_nil) (fun _ _ _ _ _ => pe_joined (.cons pe_str (.cons (pe_fmt (pv 2)) (.cons pe_str (.cons (pe_fmt (pe_dget (hu1 hu) (pv 1) (pv 2) (fun _ _ => rfl))) .nil)))))) pa_nil)) rfl) (pss_cons (ps_set (i := 3) scInit.nd rfl (.inl rfl) (Lv.pe_listVals rfl (pv 1) (by rfl) T.list (by decide +kernel))) (pss_cons (ps_fld (pv 0) (pe_tup (pa_cons (pe_bm PySem.F.plainAttrs_list PySem.F.slot_list_count PySem.F.type_list_count mt_lcount (pv 3) (pa_cons pe_int pa_nil)) (pa_cons (pe_bm PySem.F.plainAttrs_list PySem.F.slot_list_count PySem.F.type_list_count mt_lcount (pv 3) (pa_cons pe_int pa_nil)) (pa_cons (pe_bm PySem.F.plainAttrs_list PySem.F.slot_list_count PySem.F.type_list_count mt_lcount (pv 3) (pa_cons pe_int pa_nil)) pa_nil)))) rfl) (pss_cons (ps_fld (pv 0) (pe_lst (pa_cons pe_int (pa_cons (pe_ix ix_tup (pe_fld (pv 0) rfl) pe_int (fun _ _ => rfl)) pa_nil))) rfl) (pss_one (ps_fld (pv 0) (pe_lst pa_nil) rfl)))))))), ?_⟩
    have few := ok.few
    have xa : x ≠ a := fun e => by
      rw [e, ha] at hx
      cases hx
    refine ⟨_, rfl, a, l, rfl, ha, ok, fun H1 s1 => ⟨_, rfl, if_false_of rfl ?_⟩⟩
    refine ⟨_, rfl, a, dkv l, l.map (·.1), rfl, Rd.of (s1 _ _ ha), by unfold dkv; rw [List.map_map, List.map_map]; rfl, by rw [List.length_map]; omega, fun ks ns pk _ nns => ?_⟩
    obtain ⟨l', pl, rfl⟩ := perm_map pk
    refine ⟨ns, _, rfl, .inl ⟨SqL.of upd_same, fun t nt => ?_⟩⟩
    have s2 := (s1.trans (Same.new nns (o := .lst ((l'.map (·.1)).map V.str)))).trans (Same.new nt (o := .tup ((l'.map (·.1)).map V.str)))
    have ht2 : (upd (upd H1 ns (.lst ((l'.map (·.1)).map V.str))) t (.tup ((l'.map (·.1)).map V.str))) t = some (.tup ((l'.map (·.1)).map V.str)) := upd_same
    generalize upd (upd H1 ns (.lst ((l'.map (·.1)).map V.str))) t (.tup ((l'.map (·.1)).map V.str)) = H2 at s2 ht2 ⊢
    have hx2 := s2 _ _ hx
    have xt : x ≠ t := fun e => by
      rw [e, ht2] at hx2
      cases hx2
    refine ⟨_, rfl, x, C, dx, [], rfl, hx2, CF.cls, CF.n1, by decide, ?_⟩
    have k3 : Kp x H (upd H2 x (.ins C dx (putF "_names" (.ref t) []))) := (Kp.same s2).trans Kp.upd
    have hx3 : (upd H2 x (.ins C dx (putF "_names" (.ref t) []))) x = some (.ins C dx [("_names", .ref t)]) := upd_same
    have ht3 : (upd H2 x (.ins C dx (putF "_names" (.ref t) []))) t = some (.tup ((l'.map (·.1)).map V.str)) := by rw [upd_ne xt.symm]; exact ht2
    have ha3 := k3 a _ xa.symm ha
    have ndl : (l'.map (·.1)).Nodup := (pl.map _).nodup_iff.mpr ok.nd
    have mem : ∀ {i : Nat} {v : V}, ((l'.map (·.1)).map V.str)[i]? = some v → ∃ p, l'[i]? = some p ∧ v = .str p.1 ∧ valV (dkv l) (.inr p.1 : Key) = some (.int (p.2 : Int)) ∧ p.2 ≤ 2 ∧ azB p.1 = true := fun {i v} h => by
      rw [List.map_map, List.getElem?_map] at h
      cases e : l'[i]? with
      | none => rw [e] at h; cases h
      | some p =>
        rw [e] at h
        have mp : p ∈ l := pl.mem_iff.mp (List.mem_of_getElem? e)
        exact ⟨p, rfl, (Option.some.inj h).symm, val_some ok.nd mp, ok.two p mp, ok.name p mp⟩
    have ll : l'.length ≤ 8 := by
      rw [pl.length_eq]
      omega
    generalize upd H2 x (.ins C dx (putF "_names" (.ref t) [])) = H3 at k3 hx3 ht3 ha3 ⊢
    -- _arities
    refine ⟨_, rfl, x, C, dx, _, _, rfl, hx3, CF.cls, CF.n1, rfl, t, rfl, ⟨_, SqT.of ht3⟩, fun D nD => ?_⟩
    refine dc_tup (K := K) (a := t) (xs := (l'.map (·.1)).map V.str) (fun i G => G D = some (.dK (dkv (l'.take i))) ∧ Same H3 G) ⟨upd_same, Same.new nD⟩ (fun i G _ ⟨_, s⟩ => SqT.of (s _ _ ht3)) ?_ ?_
    · rintro i v G hv ⟨eD, s⟩
      obtain ⟨p, hp, rfl, vz, two, _⟩ := mem hv
      have nz : p.1 ∉ (l'.take i).map (·.1) := fun m => by
        obtain ⟨j, hj, e⟩ := List.mem_iff_getElem.mp m
        rw [List.length_map, List.length_take] at hj
        obtain ⟨hi, ep⟩ := List.getElem?_eq_some_iff.mp hp
        have e2 : (l'.map (·.1))[j]'(by rw [List.length_map]; omega) = (l'.map (·.1))[i]'(by rw [List.length_map]; omega) := by
          rw [List.getElem_map, List.getElem_map, ep, ← e, List.getElem_map, List.getElem_take]
        have := (List.getElem_inj ndl).mp e2
        omega
      refine ⟨rfl, _, rfl, _, rfl, _, rfl, a, _, rfl, vz ▸ DGet.k (k := .inr p.1) (s _ _ ha3), dkv (l'.take i), .inr p.1, rfl, eD, ?_, ?_, fun b o q => by rw [upd_ne (ne_of_none q nD)]; exact s b o q⟩
      · have e : (dkv (l'.take i)).length = (l'.take i).length := List.length_map _
        rw [e, List.length_take, sizeLine_eq]
        omega
      · rw [upd_same, put_end nz, List.take_add_one, hp]
        rfl
    rintro G ⟨eD, s3⟩
    have eD : G D = some (.dK (dkv l')) := by
      have t0 := List.take_of_length_le (l := l') (i := ((l'.map (·.1)).map V.str).length) (by rw [List.length_map, List.length_map]; exact Nat.le_refl _)
      rw [t0] at eD
      exact eD
    refine ⟨_, rfl, x, C, dx, _, rfl, s3 _ _ hx3, CF.cls, CF.n2, Nat.le_of_ble_eq_true rfl, ?_⟩
    have xD : x ≠ D := ne_of_none hx3 nD
    have k4 : Kp x H (upd G x (.ins C dx (putF "_arities" (.ref D) [("_names", .ref t)]))) := (k3.trans (Kp.same s3)).trans Kp.upd
    have hx4 : (upd G x (.ins C dx (putF "_arities" (.ref D) [("_names", .ref t)]))) x = some (.ins C dx [("_names", .ref t), ("_arities", .ref D)]) := upd_same
    have ht4 : (upd G x (.ins C dx (putF "_arities" (.ref D) [("_names", .ref t)]))) t = some (.tup ((l'.map (·.1)).map V.str)) := by rw [upd_ne xt.symm]; exact s3 _ _ ht3
    have hD4 : (upd G x (.ins C dx (putF "_arities" (.ref D) [("_names", .ref t)]))) D = some (.dK (dkv l')) := by rw [upd_ne xD.symm]; exact eD
    have ha4 := k4 a _ xa.symm ha
    generalize upd G x (.ins C dx (putF "_arities" (.ref D) [("_names", .ref t)])) = H4 at k4 hx4 ht4 hD4 ha4 ⊢
    -- _lines
    refine ⟨_, rfl, x, C, dx, _, _, rfl, hx4, CF.cls, CF.n1, rfl, t, rfl, ⟨_, SqT.of ht4⟩, fun D2 nD2 => ?_⟩
    refine lc_tup (K := K) (a := t) (xs := (l'.map (·.1)).map V.str) (tt := tYes) (g := gName 2) (te := t_line) (vs := [2]) (fun i G => ∃ ss : List V, G D2 = some (.lst ss) ∧ ss.length = i ∧ Same H4 G) ⟨[], upd_same, rfl, Same.new nD2⟩ (fun i G _ ⟨_, _, _, s⟩ => SqT.of (s _ _ ht4)) ?_ ?_
    · rintro i v G2 hv ⟨ss, e2, ls, s⟩
      obtain ⟨p, hp, rfl, vz, two, az⟩ := mem hv
      have z8 : p.1.length ≤ 8 := by
        have h2 : (decide (1 ≤ p.1.length) && decide (p.1.length ≤ 8) && p.1.cps.toList.all azC) = true := az
        simp only [Bool.and_eq_true, decide_eq_true_eq] at h2
        omega
      have lg : ((p.2 : Int)).natAbs.log2 < 1920 := Nat.lt_of_le_of_lt (Nat.log2_le_self _) (by omega)
      have tl : (((toString (p.2 : Int) : String) : Str)).length ≤ 1921 := PyProof.Rows.int_text_len_1921 lg
      have il : i < 8 := by
        have := (List.getElem?_eq_some_iff.mp hp).1
        omega
      have n1 : (Str.empty ++ ("op " : Str)).length = 3 := rfl
      refine ⟨rfl, _, rfl, by rw [n1, sizeLine_eq]; decide, _, rfl, .inl ⟨p.1, rfl, by rw [sizeLine_eq]; omega, _, rfl, by rw [strLen_append, n1, sizeLine_eq]; omega, _, rfl, ?_, _, rfl, _, rfl, a, _, rfl, vz ▸ DGet.k (k := .inr p.1) (s _ _ ha4), .inr ⟨_, rfl, lg, _, rfl, ?_, ss, e2, by rw [sizeLine_eq]; omega, ss ++ [_], upd_same, by rw [List.length_append, ls]; rfl, fun b o q => by rw [upd_ne (ne_of_none q nD2)]; exact s b o q⟩⟩⟩
      · rw [strLen_append, strLen_append, n1, sizeLine_eq, show (" " : Str).length = 1 from rfl]
        omega
      · rw [strLen_append, strLen_append, strLen_append, n1, sizeLine_eq, show (" " : Str).length = 1 from rfl]
        have tl' : ((Str.ofString (toString (p.2 : Int)))).length ≤ 1921 := tl
        omega
    · rintro G2 ⟨ss, e2, ls, s⟩
      refine ⟨D2, ss, rfl, .inl ⟨SqL.of e2, fun t2 nt2 => ⟨_, rfl, x, C, dx, _, rfl, (Same.new nt2) _ _ (s _ _ hx4), CF.cls, CF.n3, Nat.le_of_ble_eq_true rfl, ?_⟩⟩⟩
      have s5 := s.trans (Same.new nt2 (o := .tup ss))
      have xt2 : x ≠ t2 := ne_of_none (s _ _ hx4) nt2
      have xa4 : a ≠ x := xa.symm
      have k5 : Kp x H (upd (upd G2 t2 (.tup ss)) x (.ins C dx (putF "_lines" (.ref t2) [("_names", .ref t), ("_arities", .ref D)]))) := (k4.trans (Kp.same s5)).trans Kp.upd
      have hx5 : (upd (upd G2 t2 (.tup ss)) x (.ins C dx (putF "_lines" (.ref t2) [("_names", .ref t), ("_arities", .ref D)]))) x = some (.ins C dx [("_names", .ref t), ("_arities", .ref D), ("_lines", .ref t2)]) := upd_same
      have ht5 : (upd (upd G2 t2 (.tup ss)) x (.ins C dx (putF "_lines" (.ref t2) [("_names", .ref t), ("_arities", .ref D)]))) t = some (.tup (l'.map fun p => V.str p.1)) := by
        rw [upd_ne xt.symm]
        have := s5 _ _ ht4
        rw [List.map_map] at this
        exact this
      have hD5 : (upd (upd G2 t2 (.tup ss)) x (.ins C dx (putF "_lines" (.ref t2) [("_names", .ref t), ("_arities", .ref D)]))) D = some (.dK (dkv l')) := by
        rw [upd_ne xD.symm]
        exact s5 _ _ hD4
      generalize upd (upd G2 t2 (.tup ss)) x (.ins C dx (putF "_lines" (.ref t2) [("_names", .ref t), ("_arities", .ref D)])) = H5 at k5 hx5 ht5 hD5 ⊢
      have ha5 := k5 a _ xa4 ha
      -- told
      refine ⟨_, rfl, a, dkv l, rfl, ha5, fun q nq => ?_⟩
      have s6 := Same.new nq (o := .lst ((dkv l).map (·.2)))
      have xq : x ≠ q := ne_of_none hx5 nq
      have hq6 : (upd H5 q (.lst ((dkv l).map (·.2)))) q = some (.lst ((l.map fun p => (p.2 : Int)).map V.int)) := by
        rw [upd_same]
        unfold dkv
        rw [List.map_map, List.map_map]
        rfl
      generalize upd H5 q (.lst ((dkv l).map (·.2))) = H6 at s6 hq6 ⊢
      have hx6 := s6 _ _ hx5
      have ht6 := s6 _ _ ht5
      have hD6 := s6 _ _ hD5
      have tyq : tyV K "list" (V.ref q) H6 := .inl ⟨rfl, _, SqL.of hq6⟩
      refine ⟨_, rfl, tyq, q, _, 0, rfl, rfl, SqL.of hq6, _, rfl, tyq, q, _, 1, rfl, rfl, SqL.of hq6, _, rfl, tyq, q, _, 2, rfl, rfl, SqL.of hq6, by show 3 ≤ sizeLine; decide, fun m nm => ?_⟩
      have s7 := Same.new nm (o := .tup [.int ((l.map fun p => (p.2 : Int)).count 0 : Nat), .int ((l.map fun p => (p.2 : Int)).count 1 : Nat), .int ((l.map fun p => (p.2 : Int)).count 2 : Nat)])
      have xm : x ≠ m := ne_of_none hx6 nm
      refine ⟨_, rfl, x, C, dx, _, rfl, s7 _ _ hx6, CF.cls, CF.n4, Nat.le_of_ble_eq_true rfl, ?_⟩
      have k7 : Kp x H (upd (upd H6 m (.tup [.int ((l.map fun p => (p.2 : Int)).count 0 : Nat), .int ((l.map fun p => (p.2 : Int)).count 1 : Nat), .int ((l.map fun p => (p.2 : Int)).count 2 : Nat)])) x (.ins C dx (putF "_many" (.ref m) [("_names", .ref t), ("_arities", .ref D), ("_lines", .ref t2)]))) := ((k5.trans (Kp.same s6)).trans (Kp.same s7)).trans Kp.upd
      have hx7 : (upd (upd H6 m (.tup [.int ((l.map fun p => (p.2 : Int)).count 0 : Nat), .int ((l.map fun p => (p.2 : Int)).count 1 : Nat), .int ((l.map fun p => (p.2 : Int)).count 2 : Nat)])) x (.ins C dx (putF "_many" (.ref m) [("_names", .ref t), ("_arities", .ref D), ("_lines", .ref t2)]))) x = some (.ins C dx [("_names", .ref t), ("_arities", .ref D), ("_lines", .ref t2), ("_many", .ref m)]) := upd_same
      have hm7 : (upd (upd H6 m (.tup [.int ((l.map fun p => (p.2 : Int)).count 0 : Nat), .int ((l.map fun p => (p.2 : Int)).count 1 : Nat), .int ((l.map fun p => (p.2 : Int)).count 2 : Nat)])) x (.ins C dx (putF "_many" (.ref m) [("_names", .ref t), ("_arities", .ref D), ("_lines", .ref t2)]))) m = some (.tup [.int ((l.map fun p => (p.2 : Int)).count 0 : Nat), .int ((l.map fun p => (p.2 : Int)).count 1 : Nat), .int ((l.map fun p => (p.2 : Int)).count 2 : Nat)]) := by rw [upd_ne xm.symm, upd_same]
      have ht7 : (upd (upd H6 m (.tup [.int ((l.map fun p => (p.2 : Int)).count 0 : Nat), .int ((l.map fun p => (p.2 : Int)).count 1 : Nat), .int ((l.map fun p => (p.2 : Int)).count 2 : Nat)])) x (.ins C dx (putF "_many" (.ref m) [("_names", .ref t), ("_arities", .ref D), ("_lines", .ref t2)]))) t = some (.tup (l'.map fun p => V.str p.1)) := by
        rw [upd_ne xt.symm]
        exact s7 _ _ ht6
      have hD7 : (upd (upd H6 m (.tup [.int ((l.map fun p => (p.2 : Int)).count 0 : Nat), .int ((l.map fun p => (p.2 : Int)).count 1 : Nat), .int ((l.map fun p => (p.2 : Int)).count 2 : Nat)])) x (.ins C dx (putF "_many" (.ref m) [("_names", .ref t), ("_arities", .ref D), ("_lines", .ref t2)]))) D = some (.dK (dkv l')) := by
        rw [upd_ne xD.symm]
        exact s7 _ _ hD6
      generalize upd (upd H6 m (.tup [.int ((l.map fun p => (p.2 : Int)).count 0 : Nat), .int ((l.map fun p => (p.2 : Int)).count 1 : Nat), .int ((l.map fun p => (p.2 : Int)).count 2 : Nat)])) x (.ins C dx (putF "_many" (.ref m) [("_names", .ref t), ("_arities", .ref D), ("_lines", .ref t2)])) = H7 at k7 hx7 hm7 ht7 hD7 ⊢
      -- _counts
      refine ⟨_, rfl, x, C, dx, _, _, rfl, hx7, CF.cls, CF.n4, rfl, m, _, _, _, rfl, rfl, SqT.of hm7, rfl, by show 2 ≤ sizeLine; decide, fun c nc => ?_⟩
      have xc : x ≠ c := ne_of_none hx7 nc
      have s8 := Same.new nc (o := .lst [.int 0, .int ((l.map fun p => (p.2 : Int)).count 0 : Nat)])
      refine ⟨_, rfl, x, C, dx, _, rfl, s8 _ _ hx7, CF.cls, CF.n5, Nat.le_of_ble_eq_true rfl, ?_⟩
      have k8 : Kp x H (upd (upd H7 c (.lst [.int 0, .int ((l.map fun p => (p.2 : Int)).count 0 : Nat)])) x (.ins C dx (putF "_counts" (.ref c) [("_names", .ref t), ("_arities", .ref D), ("_lines", .ref t2), ("_many", .ref m)]))) := (k7.trans (Kp.same s8)).trans Kp.upd
      have hx8 : (upd (upd H7 c (.lst [.int 0, .int ((l.map fun p => (p.2 : Int)).count 0 : Nat)])) x (.ins C dx (putF "_counts" (.ref c) [("_names", .ref t), ("_arities", .ref D), ("_lines", .ref t2), ("_many", .ref m)]))) x = some (.ins C dx [("_names", .ref t), ("_arities", .ref D), ("_lines", .ref t2), ("_many", .ref m), ("_counts", .ref c)]) := upd_same
      have ht8 : (upd (upd H7 c (.lst [.int 0, .int ((l.map fun p => (p.2 : Int)).count 0 : Nat)])) x (.ins C dx (putF "_counts" (.ref c) [("_names", .ref t), ("_arities", .ref D), ("_lines", .ref t2), ("_many", .ref m)]))) t = some (.tup (l'.map fun p => V.str p.1)) := by
        rw [upd_ne xt.symm]
        exact s8 _ _ ht7
      have hD8 : (upd (upd H7 c (.lst [.int 0, .int ((l.map fun p => (p.2 : Int)).count 0 : Nat)])) x (.ins C dx (putF "_counts" (.ref c) [("_names", .ref t), ("_arities", .ref D), ("_lines", .ref t2), ("_many", .ref m)]))) D = some (.dK (dkv l')) := by
        rw [upd_ne xD.symm]
        exact s8 _ _ hD7
      generalize upd (upd H7 c (.lst [.int 0, .int ((l.map fun p => (p.2 : Int)).count 0 : Nat)])) x (.ins C dx (putF "_counts" (.ref c) [("_names", .ref t), ("_arities", .ref D), ("_lines", .ref t2), ("_many", .ref m)])) = H8 at k8 hx8 ht8 hD8 ⊢
      -- _rows
      refine ⟨by show 0 ≤ sizeLine; decide, fun r nr => ?_⟩
      have s9 := Same.new nr (o := .lst [])
      refine ⟨_, rfl, x, C, dx, _, rfl, s9 _ _ hx8, CF.cls, CF.n6, Nat.le_of_ble_eq_true rfl, ?_⟩
      refine q0 l' _ pl ((k8.trans (Kp.same s9)).trans Kp.upd) ⟨dx, t, D, (t2, m, c, r), upd_same, ?_, ?_⟩
      · rw [upd_ne xt.symm]
        exact s9 _ _ ht8
      · rw [upd_ne xD.symm]
        exact s9 _ _ hD8
end
end Pr

namespace Pr
open PySem PySem.Spec PyProof.Rows L2 Gd
/-! ### right trees are let through -/
theorem fo_wgo {l : List (Str × Nat)} (nd : (l.map (·.1)).Nodup) : ∀ {n : Nat} {zs : List Str}, Fo l n zs → wgo l n (zs.map V.str) = true
  | _, _, .nil => rfl
  | _, _, .cons (z := z) (a := a) (n := n) (zs := zs) m h => by
    have an : arity l (.str z) = some (a : Int) := by
      show (match valV (dkv l) (.inr z : Key) with | some (.int a) => some a | _ => none) = some (a : Int)
      rw [val_some nd m]
    rw [List.map_cons, wgo_some (by omega) an]
    have e : ((n + 1 : Nat) : Int) + ((a : Int) - 1) = ((n + a : Nat) : Int) := by omega
    rw [e]
    exact fo_wgo nd h
theorem kd_strs {H : Hp} {zs : List Str} : ∀ x ∈ zs.map V.str, ∃ ty, Kd H x ty := fun x m => by
  obtain ⟨z, _, rfl⟩ := List.mem_map.mp m
  exact ⟨_, .str z⟩
/-- a tree over the operators at o -/
structure TreeAt (H : Hp) (C o t : Addr) (l : List (Str × Nat)) (zs : List Str) : Prop where
  ops : OpsAt H C o l
  tup : H t = some (.tup (zs.map V.str))
  nd : (l.map (·.1)).Nodup
  fo : Fo l 1 zs
  few : zs.length ≤ 5000
  two : ∀ p ∈ l, p.2 ≤ 2
def spTree (C : Addr) : Sp := fun vs H Q _ => ∃ (o t : Addr) (l : List (Str × Nat)) (zs : List Str), vs = [.ref o, .ref t] ∧ TreeAt H C o t l zs ∧ Q (.bl true) H
def spChTree (C : Addr) : Sp := fun vs H Q _ => ∃ (o t : Addr) (l : List (Str × Nat)) (zs : List Str), vs = [.ref o, .ref t] ∧ TreeAt H C o t l zs ∧ Q .non H
def spChPlace (C : Addr) : Sp := fun vs H Q _ => ∃ (o t : Addr) (l : List (Str × Nat)) (zs : List Str) (p : Nat), vs = [.ref o, .ref t, .int (p : Int)] ∧ TreeAt H C o t l zs ∧ p < zs.length ∧ Q .non H
/-- the methods that the others call -/
structure Ms (K : PySem.W.Frag) (mg : Str → Option Value) (C fW fT fC fP fE fI fN : Addr) (dW dT dC dP dE dI dN : FuncData) (tk : Tok) : Prop where
  cf : OpF K C
  FW : Fun K "is_whole" "is_whole" sWhole fW dW
  bW : Binds K dW ["words", "arities"] []
  gW : mg "is_whole" = some (.ref fW)
  gM : mg "MAX_TREE" = some (.int 5000 tk)
  FT : Fun K "is_tree" "Operators.is_tree" mIsTree fT dT
  bT : Binds K dT ["self", "value"] []
  mT : Meth K C "is_tree" fT
  FC : Fun K "_check_tree" "Operators._check_tree" mChTree fC dC
  bC : Binds K dC ["self", "tree"] []
  mC : Meth K C "_check_tree" fC
  FP : Fun K "_check_place" "Operators._check_place" mChPlace fP dP
  bP : Binds K dP ["self", "tree", "place"] []
  mP : Meth K C "_check_place" fP
  FE : Fun K "_end" "Operators._end" m_End fE dE
  bE : Binds K dE ["self", "tree", "place"] []
  mE : Meth K C "_end" fE
  FI : Fun K "is_integer" "is_integer" sInteger fI dI
  bI : Binds K dI ["value"] []
  gI : mg "is_integer" = some (.ref fI)
  FN : Fun K "is_count" "is_count" sCount fN dN
  bN : Binds K dN ["value"] []
  gN : mg "is_count" = some (.ref fN)
section
variable {P : Program} {w : World} {K : PySem.W.Frag} {mg : Str → Option Value} {base : Heap} {C fW fT fC fP fE fI fN : Addr} {dW dT dC dP dE dI dN : FuncData} {tk : Tok}
theorem scIsTree : FnScope ["self", "value"] ["self", "value"] (defScope mIsTree) := ⟨rfl, rfl, rfl, by decide +kernel, rfl, by decide +kernel, by decide +kernel⟩
theorem ok_isTree (M : Ms K mg C fW fT fC fP fE fI fN dW dT dC dP dE dI dN tk) (T : Free mg) : FnOk P w K mg base CX0 2 fT dT ["self", "value"] (spTree C) := by
  have GW : FnOk P w K mg base CX0 1 fW dW ["words", "arities"] spWhole := ok_whole M.FW T
  refine M.FT.ok scIsTree (fun vs H Q E h => ?_) (fun cdv A outer s H vs Q E hr h => ?_)
  · obtain ⟨o, t, l, zs, rfl, _⟩ := h
    rfl
  · obtain ⟨o, t, l, zs, rfl, tr, q⟩ := h
    refine ⟨_, pss_one (ps_ret (pe_and (pe_callB call_isi (by rfl) T.isi (by decide +kernel) (pa_cons (pv 1) (pa_cons (pe_bltn (v := .ty "tuple") (by rfl) T.tuple (by decide +kernel) rfl) pa_nil))) (pe_and (pe_cmpR op_le (pe_callB call_len_seq (by rfl) T.len PySem.boot_len (pa_cons (pv 1) pa_nil)) (pe_glob (v := .int 5000) (by rfl) M.gM ⟨_, rfl⟩) (nomark _)) (pe_one (pe_call GW (hr.mono (by decide)) (by rfl) M.gW M.FW.kp M.bW .nil pass0 (pa_cons (pv 1) (pa_cons (pe_fld (pv 0) rfl) pa_nil))))))), ?_⟩
    obtain ⟨dx, tn, ta, tl, ho, hn, ha⟩ := tr.ops.ex
    refine ⟨_, rfl, .ref t, _, _, _, true, rfl, .ty "tuple", (Kd.tup tr.tup).ty, kit_ty (r := true) (by decide +kernel), _, rfl, iteT ⟨_, rfl, t, _, rfl, .inr (SqT.of tr.tup), _, _, rfl, rfl, _, rfl, ?_⟩⟩
    refine if_true_of (decide_eq_true (by rw [List.length_map]; have := tr.few; omega)) ⟨_, rfl, _, rfl, o, C, dx, _, _, rfl, ho, M.cf.cls, M.cf.n2, rfl, t, ta, _, l, rfl, tr.tup, kd_strs, ha, ?_⟩
    have e : wgo l 1 (zs.map V.str) = true := fo_wgo tr.nd tr.fo
    rw [e]
    exact q
theorem scChTree : FnScope ["self", "tree"] ["self", "tree"] (defScope mChTree) := ⟨rfl, rfl, rfl, by decide +kernel, rfl, by decide +kernel, by decide +kernel⟩
theorem ok_chTree (M : Ms K mg C fW fT fC fP fE fI fN dW dT dC dP dE dI dN tk) (T : Free mg) : FnOk P w K mg base CX0 3 fC dC ["self", "tree"] (spChTree C) := by
  have GT : FnOk P w K mg base CX0 2 fT dT ["self", "value"] (spTree C) := ok_isTree M T
  refine M.FC.ok scChTree (fun vs H Q E h => ?_) (fun cdv A outer s H vs Q E hr h => ?_)
  · obtain ⟨o, t, l, zs, rfl, _⟩ := h
    rfl
  · obtain ⟨o, t, l, zs, rfl, tr, q⟩ := h
    refine ⟨_, pss_one (ps_if (pt_not (pt_val (pe_meth (pv 0) M.cf.cls M.mT GT hr M.bT .nil pass0 (pa_cons (pv 1) pa_nil)))) (pss_one ps_never) pss_nil), ?_⟩
    obtain ⟨dx, tn, ta, tl, ho, hn, ha⟩ := tr.ops.ex
    exact ⟨_, rfl, o, dx, _, rfl, ho, rfl, _, rfl, o, t, l, zs, rfl, tr, _, rfl, if_false_of rfl q⟩
theorem scChPlace : FnScope ["self", "tree", "place"] ["self", "tree", "place"] (defScope mChPlace) := ⟨rfl, rfl, rfl, by decide +kernel, rfl, by decide +kernel, by decide +kernel⟩
theorem ok_chPlace (M : Ms K mg C fW fT fC fP fE fI fN dW dT dC dP dE dI dN tk) (T : Free mg) : FnOk P w K mg base CX0 4 fP dP ["self", "tree", "place"] (spChPlace C) := by
  have GC : FnOk P w K mg base CX0 3 fC dC ["self", "tree"] (spChTree C) := ok_chTree M T
  have GN : FnOk P w K mg base CX0 2 fN dN ["value"] spCountO := ok_countO ⟨M.FI, M.bI, M.gI, M.FN, M.bN, M.gN⟩ T
  refine M.FP.ok scChPlace (fun vs H Q E h => ?_) (fun cdv A outer s H vs Q E hr h => ?_)
  · obtain ⟨o, t, l, zs, p, rfl, _⟩ := h
    rfl
  · obtain ⟨o, t, l, zs, p, rfl, tr, hp, q⟩ := h
    have r2 : Room 2 _ := hr.mono (by decide)
    refine ⟨_, pss_cons (ps_expr (pe_meth (pv 0) M.cf.cls M.mC GC hr M.bC .nil pass0 (pa_cons (pv 1) pa_nil))) (pss_one (ps_if (PW.pt (pw_or (pt_not (pt_val (pe_call GN r2 (by rfl) M.gN M.FN.kp M.bN .nil pass0 (pa_cons (pv 2) pa_nil)))) (pw_or1 (pt_cmpR op_ge (pv 2) (pe_callB call_len_seq (by rfl) T.len PySem.boot_len (pa_cons (pv 1) pa_nil)) (nomark _))))) (pss_one ps_never) pss_nil)), ?_⟩
    obtain ⟨dx, tn, ta, tl, ho, hn, ha⟩ := tr.ops.ex
    have few := tr.few
    have c : isCountO (.int (p : Int)) = true := nat_countO (Nat.lt_of_lt_of_le (show p < 5000 by omega) (by decide))
    refine ⟨_, rfl, o, dx, _, rfl, ho, rfl, _, rfl, o, t, l, zs, rfl, tr, _, rfl, .int (p : Int), "int", rfl, .int _, _, rfl, ?_⟩
    rw [c]
    exact if_false_of rfl ⟨_, rfl, _, rfl, t, _, rfl, .inr (SqT.of tr.tup), _, _, rfl, rfl, _, rfl, if_false_of (decide_eq_false (by rw [List.length_map]; omega)) q⟩
end
end Pr

namespace Pr
open PySem PySem.Spec PyProof.Rows L2 Gd
/-! ### where a subtree ends -/
def ar (l : List (Str × Nat)) (z : Str) : Nat := match valV (dkv l) (.inr z : Key) with
  | some (.int a) => a.toNat
  | _ => 0
theorem ar_eq {l : List (Str × Nat)} {z : Str} {a : Nat} (nd : (l.map (·.1)).Nodup) (m : (z, a) ∈ l) : ar l z = a := by
  show (match valV (dkv l) (.inr z : Key) with | some (.int a) => a.toNat | _ => 0) = a
  rw [val_some nd m]
  rfl
/-- how many words the first n trees take -/
def ext (l : List (Str × Nat)) : List Str → Nat → Nat
  | _, 0 => 0
  | [], _ => 0
  | z :: zs, n + 1 => 1 + ext l zs (n + ar l z)
theorem ext_zero {l : List (Str × Nat)} : ∀ zs : List Str, ext l zs 0 = 0
  | [] => rfl
  | _ :: _ => rfl
theorem Fo.drop {l : List (Str × Nat)} : ∀ {n : Nat} {zs : List Str} {j : Nat}, Fo l n zs → j < zs.length → ∃ m, Fo l (m + 1) (zs.drop j)
  | _, _, _, .nil, h => absurd h (Nat.not_lt_zero _)
  | _, _, 0, .cons m h, _ => ⟨_, .cons m h⟩
  | _, _, j + 1, .cons m h, hj => Fo.drop (j := j) h (Nat.lt_of_succ_lt_succ hj)
theorem Fo.len {l : List (Str × Nat)} : ∀ {n : Nat} {zs : List Str}, Fo l (n + 1) zs → 0 < zs.length
  | _, _, .cons _ _ => Nat.succ_pos _
def spEnd_ (C : Addr) : Sp := fun vs H Q _ => ∃ (o t : Addr) (l : List (Str × Nat)) (zs : List Str) (p : Nat), vs = [.ref o, .ref t, .int (p : Int)] ∧ TreeAt H C o t l zs ∧ p < zs.length ∧ Q (.int ((p + ext l (zs.drop p) 1 : Nat) : Int)) H
section
variable {P : Program} {w : World} {K : PySem.W.Frag} {mg : Str → Option Value} {base : Heap} {C fW fT fC fP fE fI fN : Addr} {dW dT dC dP dE dI dN : FuncData} {tk : Tok}
theorem scEnd_ : FnScope ["self", "tree", "place", "awaited", "at"] ["self", "tree", "place"] (defScope m_End) := ⟨rfl, rfl, rfl, by decide +kernel, rfl, by decide +kernel, by decide +kernel⟩
theorem ok_end_ (M : Ms K mg C fW fT fC fP fE fI fN dW dT dC dP dE dI dN tk) (T : Free mg) : FnOk P w K mg base CX0 1 fE dE ["self", "tree", "place"] (spEnd_ C) := by
  refine M.FE.ok scEnd_ (fun vs H Q E h => ?_) (fun cdv A outer s H vs Q E hr h => ?_)
  · obtain ⟨o, t, l, zs, p, rfl, _⟩ := h
    rfl
  · obtain ⟨o, t, l, zs, p, rfl, tr, hp, q⟩ := h
    have hu := hr.units
    have hu1 : ∀ {u : Nat}, u + 64 < cLine → u + 1 < cLine := fun h => by omega
    refine ⟨_, pss_cons (ps_set (i := 3) scEnd_.nd rfl (.inl rfl) pe_int) (pss_cons (ps_set (i := 4) scEnd_.nd rfl (.inl rfl) (pv 2)) (pss_cons (ps_while PassesOwn.never (pt_cmpR op_gt (pv 3) pe_int (nomark _)) (pss_cons (ps_aug (i := 3) scEnd_.nd rfl (.inl rfl) (pe_op op_sub (pe_dget (hu1 hu) (pe_fld (pv 0) rfl) (pe_ix ix_tup (pv 1) (pv 4) (fun _ _ => rfl)) (fun _ _ => rfl)) pe_int) ip_add) (pss_one (ps_aug (i := 4) scEnd_.nd rfl (.inl rfl) pe_int ip_add)))) (pss_one (ps_ret (pv 4))))), ?_⟩
    obtain ⟨dx, tn, ta, tl, ho, hn, ha⟩ := tr.ops.ex
    obtain ⟨r, fo⟩ := Fo.drop tr.fo hp
    refine ⟨_, rfl, ?_⟩
    refine while_by (fun σ H' => H' = H ∧ ∃ k j : Nat, σ = [some (.ref o), some (.ref t), some (.int (p : Int)), some (.int (k : Int)), some (.int (j : Int))] ∧ Fo l (k + r) (zs.drop j) ∧ j ≤ zs.length ∧ j + ext l (zs.drop j) k = p + ext l (zs.drop p) 1)
      (fun σ _ => match σ with | [_, _, _, _, some (.int j)] => zs.length - j.toNat | _ => 0) ⟨rfl, 1, p, rfl, by rw [Nat.add_comm]; exact fo, by omega, rfl⟩ ?_ (fun σ H Q Q' k h => by
        obtain ⟨v, hv, i, j, e1, e2, c, ec, q⟩ := h
        exact ⟨v, hv, i, j, e1, e2, c, ec, k _ _ q⟩)
    rintro σ H' ⟨rfl, k, j, rfl, f1, jl, ej⟩
    refine ⟨_, rfl, _, _, rfl, rfl, _, rfl, ?_⟩
    cases k with
    | zero =>
      refine if_false_of (by decide) ⟨_, rfl, ?_⟩
      rw [ext_zero] at ej
      have e : (j : Int) = ((p + ext l (zs.drop p) 1 : Nat) : Int) := by omega
      rw [e]
      exact q
    | succ k =>
      refine if_true_of (decide_eq_true (by omega)) ?_
      have jl2 : j < zs.length := by
        have e : k + 1 + r = (k + r) + 1 := by omega
        rw [e] at f1
        have := f1.len
        rw [List.length_drop] at this
        omega
      have hd : zs.drop j = zs[j] :: zs.drop (j + 1) := List.drop_eq_getElem_cons jl2
      rw [hd] at f1 ej
      obtain ⟨a, m, f2⟩ : ∃ a, (zs[j], a) ∈ l ∧ Fo l (k + r + a) (zs.drop (j + 1)) := by
        have e : k + 1 + r = (k + r) + 1 := by omega
        rw [e] at f1
        cases f1 with
        | cons m h => exact ⟨_, m, h⟩
      have vz := val_some tr.nd m
      have arz := ar_eq tr.nd m
      have hx : atI (zs.map V.str) (j : Int) = some (V.str zs[j]) := atI_nat (by rw [List.getElem?_map, List.getElem?_eq_getElem jl2]; rfl)
      refine ⟨_, rfl, _, rfl, o, C, dx, _, _, rfl, ho, M.cf.cls, M.cf.n2, rfl, _, rfl, _, rfl, t, _, _, _, rfl, rfl, SqT.of tr.tup, hx, ta, _, rfl, vz ▸ DGet.k (k := .inr zs[j]) ha, _, _, rfl, rfl, _, _, rfl, rfl, ?_⟩
      have e1 : ((k + 1 : Nat) : Int) + ((a : Int) - 1) = ((k + a : Nat) : Int) := by omega
      have e2 : (j : Int) + 1 = ((j + 1 : Nat) : Int) := by omega
      have ej2 : j + (1 + ext l (zs.drop (j + 1)) (k + ar l zs[j])) = p + ext l (zs.drop p) 1 := ej
      rw [arz] at ej2
      refine ⟨_, rfl, _, _, rfl, rfl, ⟨rfl, k + a, j + 1, ?_, ?_, by omega, by omega⟩, ?_⟩
      · show ([some (V.ref o), some (V.ref t), some (V.int (p : Int)), some (V.int (((k + 1 : Nat) : Int) + ((a : Int) - 1))), some (V.int ((j : Int) + 1))] : L2.St) = _
        rw [e1, e2]
      · have e : k + a + r = k + r + a := by omega
        rw [e]
        exact f2
      · show zs.length - ((j : Int) + 1).toNat < zs.length - (j : Int).toNat
        omega
end
end Pr

namespace Pr
open PySem PySem.Spec PyProof.Rows L2 Gd
/-! ### end, subtree, children -/
theorem ext_fo {l : List (Str × Nat)} (nd : (l.map (·.1)).Nodup) : ∀ {zs : List Str} {n m : Nat}, Fo l (n + m) zs → Fo l m (zs.drop (ext l zs n)) ∧ ext l zs n ≤ zs.length
  | zs, 0, m, h => by
    rw [ext_zero, List.drop_zero]
    rw [Nat.zero_add] at h
    exact ⟨h, Nat.zero_le _⟩
  | [], n + 1, m, h => by
    have e : n + 1 + m = (n + m) + 1 := by omega
    rw [e] at h
    exact absurd h.len (Nat.lt_irrefl _)
  | z :: zs, n + 1, m, h => by
    have e : n + 1 + m = (n + m) + 1 := by omega
    rw [e] at h
    cases h with
    | cons mm h =>
      rename_i a
      have e2 : n + m + a = (n + a) + m := by omega
      rw [e2] at h
      obtain ⟨h1, h2⟩ := ext_fo nd h
      have e3 : ext l (z :: zs) (n + 1) = ext l zs (n + a) + 1 := by
        show 1 + ext l zs (n + ar l z) = _
        rw [ar_eq nd mm, Nat.add_comm]
      rw [e3]
      exact ⟨h1, by rw [List.length_cons]; omega⟩
/-- the places of n trees from c on -/
def kidsFrom (l : List (Str × Nat)) (zs : List Str) : Nat → Nat → List Nat
  | _, 0 => []
  | c, n + 1 => c :: kidsFrom l zs (c + ext l (zs.drop c) 1) n
theorem kids_len {l : List (Str × Nat)} {zs : List Str} : ∀ {n c : Nat}, (kidsFrom l zs c n).length = n
  | 0, _ => rfl
  | n + 1, _ => congrArg (· + 1) kids_len
def spEnd (C : Addr) : Sp := spEnd_ C
def spSub (C : Addr) : Sp := fun vs H Q _ => ∃ (o t : Addr) (l : List (Str × Nat)) (zs : List Str) (p : Nat), vs = [.ref o, .ref t, .int (p : Int)] ∧ TreeAt H C o t l zs ∧ p < zs.length ∧
  ∀ q H', Same H H' → H' q = some (.tup (((zs.drop p).take (ext l (zs.drop p) 1)).map V.str)) → Q (.ref q) H'
def spKids (C : Addr) : Sp := fun vs H Q _ => ∃ (o t : Addr) (l : List (Str × Nat)) (zs : List Str) (p : Nat) (hp : p < zs.length), vs = [.ref o, .ref t, .int (p : Int)] ∧ TreeAt H C o t l zs ∧
  ∀ q H', Same H H' → H' q = some (.tup ((kidsFrom l zs (p + 1) (ar l zs[p])).map fun (c : Nat) => V.int (c : Int))) → Q (.ref q) H'
theorem TreeAt.same {H H' : Hp} {C o t : Addr} {l : List (Str × Nat)} {zs : List Str} (h : TreeAt H C o t l zs) (s : Same H H') : TreeAt H' C o t l zs := ⟨h.ops.same s, s _ _ h.tup, h.nd, h.fo, h.few, h.two⟩
section
variable {P : Program} {w : World} {K : PySem.W.Frag} {mg : Str → Option Value} {base : Heap} {C fW fT fC fP fE fI fN : Addr} {dW dT dC dP dE dI dN : FuncData} {tk : Tok}
theorem scEnd : FnScope ["self", "tree", "place"] ["self", "tree", "place"] (defScope mEnd) := ⟨rfl, rfl, rfl, by decide +kernel, rfl, by decide +kernel, by decide +kernel⟩
theorem ok_end {f : Addr} {fd : FuncData} (F : Fun K "end" "Operators.end" mEnd f fd) (M : Ms K mg C fW fT fC fP fE fI fN dW dT dC dP dE dI dN tk) (T : Free mg) : FnOk P w K mg base CX0 5 f fd ["self", "tree", "place"] (spEnd C) := by
  have GP : FnOk P w K mg base CX0 4 fP dP ["self", "tree", "place"] (spChPlace C) := ok_chPlace M T
  have GE : FnOk P w K mg base CX0 1 fE dE ["self", "tree", "place"] (spEnd_ C) := ok_end_ M T
  refine F.ok scEnd (fun vs H Q E h => ?_) (fun cdv A outer s H vs Q E hr h => ?_)
  · obtain ⟨o, t, l, zs, p, rfl, _⟩ := h
    rfl
  · obtain ⟨o, t, l, zs, p, rfl, tr, hp, q⟩ := h
    have r1 : Room 1 _ := hr.mono (by decide)
    refine ⟨_, pss_cons (ps_expr (pe_meth (pv 0) M.cf.cls M.mP GP (hr.mono (by decide)) M.bP .nil pass0 (pa_cons (pv 1) (pa_cons (pv 2) pa_nil)))) (pss_one (ps_ret (pe_meth (pv 0) M.cf.cls M.mE GE r1 M.bE .nil pass0 (pa_cons (pv 1) (pa_cons (pv 2) pa_nil))))), ?_⟩
    obtain ⟨dx, tn, ta, tl, ho, hn, ha⟩ := tr.ops.ex
    exact ⟨_, rfl, o, dx, _, rfl, ho, rfl, _, rfl, _, rfl, o, t, l, zs, p, rfl, tr, hp, _, rfl, o, dx, _, rfl, ho, rfl, _, rfl, _, rfl, o, t, l, zs, p, rfl, tr, hp, q⟩
theorem scSub : FnScope ["self", "tree", "place"] ["self", "tree", "place"] (defScope mSub) := ⟨rfl, rfl, rfl, by decide +kernel, rfl, by decide +kernel, by decide +kernel⟩
theorem ok_sub {f : Addr} {fd : FuncData} (F : Fun K "subtree" "Operators.subtree" mSub f fd) (M : Ms K mg C fW fT fC fP fE fI fN dW dT dC dP dE dI dN tk) (T : Free mg) : FnOk P w K mg base CX0 5 f fd ["self", "tree", "place"] (spSub C) := by
  have GP : FnOk P w K mg base CX0 4 fP dP ["self", "tree", "place"] (spChPlace C) := ok_chPlace M T
  have GE : FnOk P w K mg base CX0 1 fE dE ["self", "tree", "place"] (spEnd_ C) := ok_end_ M T
  refine F.ok scSub (fun vs H Q E h => ?_) (fun cdv A outer s H vs Q E hr h => ?_)
  · obtain ⟨o, t, l, zs, p, rfl, _⟩ := h
    rfl
  · obtain ⟨o, t, l, zs, p, rfl, tr, hp, q⟩ := h
    have r1 : Room 1 _ := hr.mono (by decide)
    refine ⟨_, pss_cons (ps_expr (pe_meth (pv 0) M.cf.cls M.mP GP (hr.mono (by decide)) M.bP .nil pass0 (pa_cons (pv 1) (pa_cons (pv 2) pa_nil)))) (pss_one (ps_ret (pe_slice sl_tupA (pv 1) (po_some (pv 2)) (po_some (pe_meth (pv 0) M.cf.cls M.mE GE r1 M.bE .nil pass0 (pa_cons (pv 1) (pa_cons (pv 2) pa_nil))))))), ?_⟩
    obtain ⟨dx, tn, ta, tl, ho, hn, ha⟩ := tr.ops.ex
    refine ⟨_, rfl, o, dx, _, rfl, ho, rfl, _, rfl, _, rfl, o, t, l, zs, p, rfl, tr, hp, _, rfl, _, rfl, _, rfl, _, rfl, o, dx, _, rfl, ho, rfl, _, rfl, _, rfl, o, t, l, zs, p, rfl, tr, hp, _, rfl, ?_⟩
    obtain ⟨r, fo⟩ := Fo.drop tr.fo hp
    have fo' : Fo l (1 + r) (zs.drop p) := by
      rw [Nat.add_comm]
      exact fo
    have el := (ext_fo tr.nd fo').2
    rw [List.length_drop] at el
    have lz : (zs.map V.str).length = zs.length := List.length_map _
    have i1 : HT.sIx (zs.map V.str).length 0 (some (p : Int)) = p := by
      rw [HT.sIx_nat, lz]
      omega
    have i2 : HT.sIx (zs.map V.str).length (zs.map V.str).length (some ((p + ext l (zs.drop p) 1 : Nat) : Int)) = p + ext l (zs.drop p) 1 := by
      rw [HT.sIx_nat, lz]
      omega
    have cut : cutV (zs.map V.str) (some (p : Int)) (some ((p + ext l (zs.drop p) 1 : Nat) : Int)) = ((zs.drop p).take (ext l (zs.drop p) 1)).map V.str := by
      unfold cutV
      rw [i1, i2, Nat.add_sub_cancel_left, ← List.map_drop, ← List.map_take]
    refine ⟨t, _, rfl, SqT.of tr.tup, fun hw => ?_, fun _ p' np => ?_⟩
    · rw [i1, i2, lz] at hw
      have p0 : p = 0 := hw.1
      subst p0
      refine q t H (Same.refl H) ?_
      have e := hw.2
      rw [Nat.zero_add] at e
      rw [e, List.drop_zero, List.take_length]
      exact tr.tup
    · rw [cut]
      exact q p' _ (Same.new np) upd_same
end
end Pr

namespace Pr
open PySem PySem.Spec PyProof.Rows L2 Gd
section
variable {P : Program} {w : World} {K : PySem.W.Frag} {mg : Str → Option Value} {base : Heap} {C fW fT fC fP fE fI fN : Addr} {dW dT dC dP dE dI dN : FuncData} {tk : Tok}
theorem scKids : FnScope ["self", "tree", "place", "places", "child", "_"] ["self", "tree", "place"] (defScope mKids) := ⟨rfl, rfl, rfl, by decide +kernel, rfl, by decide +kernel, by decide +kernel⟩
theorem ok_kids {f : Addr} {fd : FuncData} (F : Fun K "children" "Operators.children" mKids f fd) (M : Ms K mg C fW fT fC fP fE fI fN dW dT dC dP dE dI dN tk) (T : Free mg) : FnOk P w K mg base CX0 5 f fd ["self", "tree", "place"] (spKids C) := by
  have GP : FnOk P w K mg base CX0 4 fP dP ["self", "tree", "place"] (spChPlace C) := ok_chPlace M T
  have GE : FnOk P w K mg base CX0 1 fE dE ["self", "tree", "place"] (spEnd_ C) := ok_end_ M T
  refine F.ok scKids (fun vs H Q E h => ?_) (fun cdv A outer s H vs Q E hr h => ?_)
  · obtain ⟨o, t, l, zs, p, hp, rfl, _⟩ := h
    rfl
  · obtain ⟨o, t, l, zs, p, hp, rfl, tr, q⟩ := h
    have r1 : Room 1 _ := hr.mono (by decide)
    have hu := hr.units
    have hu1 : ∀ {u : Nat}, u + 64 < cLine → u + 1 < cLine := fun h => by omega
    refine ⟨_, pss_cons (ps_expr (pe_meth (pv 0) M.cf.cls M.mP GP (hr.mono (by decide)) M.bP .nil pass0 (pa_cons (pv 1) (pa_cons (pv 2) pa_nil)))) (pss_cons (ps_set (i := 3) scKids.nd rfl (.inl rfl) (pe_lst pa_nil)) (pss_cons (ps_set (i := 4) scKids.nd rfl (.inl rfl) (pe_op op_add (pv 2) pe_int)) (pss_cons (ps_for PassesOwn.never rfl (pi_range1 rfl T.range (pa_cons (pe_dget (hu1 hu) (pe_fld (pv 0) rfl) (pe_ix ix_tup (pv 1) (pv 2) (fun _ _ => rfl)) (fun _ _ => rfl)) pa_nil)) (pg_name (i := 5) scKids.nd rfl (.inl rfl)) (pss_cons (ps_expr (pe_bm PySem.F.plainAttrs_list PySem.F.slot_list_append PySem.F.type_list_append mt_append (pv 3) (pa_cons (pv 4) pa_nil))) (pss_one (ps_set (i := 4) scKids.nd rfl (.inl rfl) (pe_meth (pv 0) M.cf.cls M.mE GE r1 M.bE .nil pass0 (pa_cons (pv 1) (pa_cons (pv 4) pa_nil))))))) (pss_one (ps_ret (pe_callTy call_tuple_of (by rfl) T.tuple (by decide +kernel) (pa_cons (pv 3) pa_nil))))))), ?_⟩
    obtain ⟨dx, tn, ta, tl, ho, hn, ha⟩ := tr.ops.ex
    obtain ⟨r, fo⟩ := Fo.drop tr.fo hp
    have hd : zs.drop p = zs[p] :: zs.drop (p + 1) := List.drop_eq_getElem_cons hp
    rw [hd] at fo
    obtain ⟨a, m, f2⟩ : ∃ a, (zs[p], a) ∈ l ∧ Fo l (r + a) (zs.drop (p + 1)) := by
      cases fo with
      | cons m h => exact ⟨_, m, h⟩
    have arz := ar_eq tr.nd m
    rw [arz] at q
    refine ⟨_, rfl, o, dx, _, rfl, ho, rfl, _, rfl, _, rfl, o, t, l, zs, p, rfl, tr, hp, by show 0 ≤ sizeLine; decide, fun L nL => ?_⟩
    have s0 := Same.new nL (o := .lst [])
    have hx : atI (zs.map V.str) (p : Int) = some (V.str zs[p]) := atI_nat (by rw [List.getElem?_map, List.getElem?_eq_getElem hp]; rfl)
    refine ⟨_, rfl, _, _, rfl, rfl, _, rfl, o, C, dx, _, _, rfl, s0 _ _ ho, M.cf.cls, M.cf.n2, rfl, _, rfl, _, rfl, t, _, _, _, rfl, rfl, SqT.of (s0 _ _ tr.tup), hx, ta, _, rfl, val_some tr.nd m ▸ DGet.k (k := .inr zs[p]) (s0 _ _ ha), _, rfl, ?_, ?_, ?_⟩
    · omega
    · have := tr.two _ m
      have : a ≤ 2 := this
      omega
    refine for_range (lo := 0) (n := (a : Int).toNat) (fun i σ H' => ∃ (c : Nat) (v5 : Option V) (done : List Nat), σ = [some (.ref o), some (.ref t), some (.int (p : Int)), some (.ref L), some (.int (c : Int)), v5] ∧ Same H H' ∧ H' L = some (.lst (done.map fun (c : Nat) => V.int (c : Int))) ∧ done.length = i ∧
        (∀ k, i + k = a → kidsFrom l zs (p + 1) a = done ++ kidsFrom l zs c k ∧ Fo l (k + r) (zs.drop c))) ⟨p + 1, none, [], ?_, Same.new nL, upd_same, rfl, fun k e => ?_⟩ ?_ ?_
    · have e : ((p : Int) + 1) = ((p + 1 : Nat) : Int) := by omega
      show ([some (V.ref o), some (V.ref t), some (V.int (p : Int)), some (V.ref L), some (V.int ((p : Int) + 1)), none] : L2.St) = _
      rw [e]
    · have e2 : k = a := by omega
      subst e2
      exact ⟨rfl, by rw [Nat.add_comm]; exact f2⟩
    · rintro i σ H' hi ⟨c, v5, done, rfl, sm, hL, ld, inv⟩
      have hi' : i < a := hi
      obtain ⟨k, hk⟩ : ∃ k, i + (k + 1) = a := ⟨a - i - 1, by omega⟩
      obtain ⟨ek, fk⟩ := inv (k + 1) hk
      have fk' : Fo l (1 + (k + r)) (zs.drop c) := by
        have e : k + 1 + r = 1 + (k + r) := by omega
        rw [← e]
        exact fk
      have cl : c < zs.length := by
        have e : 1 + (k + r) = (k + r) + 1 := by omega
        rw [e] at fk'
        have := fk'.len
        rw [List.length_drop] at this
        omega
      obtain ⟨f3, f4⟩ := ext_fo tr.nd fk'
      have a2 : a ≤ 2 := tr.two _ m
      have sm2 : Same H (upd H' L (.lst (done.map (fun (c : Nat) => V.int (c : Int)) ++ [.int (c : Int)]))) := fun b u e => by
        rw [upd_ne (ne_of_none e nL)]
        exact sm b u e
      refine ⟨_, rfl, .inl ⟨rfl, _, SqL.of hL⟩, _, rfl, L, _, _, rfl, rfl, hL, by rw [List.length_map, sizeLine_eq]; omega, ?_⟩
      refine ⟨_, rfl, o, dx, _, rfl, sm2 _ _ ho, rfl, _, rfl, _, rfl, o, t, l, zs, c, rfl, tr.same sm2, cl, ?_⟩
      refine ⟨c + ext l (zs.drop c) 1, _, done ++ [c], rfl, sm2, ?_, by simp [ld], fun k' e => ?_⟩
      · rw [upd_same, List.map_append]
        rfl
      · have e3 : k' = k := by omega
        subst e3
        rw [List.drop_drop] at f3
        refine ⟨?_, f3⟩
        rw [ek, List.append_assoc]
        rfl
    · rintro σ H' ⟨c, v5, done, rfl, sm, hL, ld, inv⟩
      obtain ⟨ek, _⟩ := inv 0 (by have : (a : Int).toNat = a := Int.toNat_natCast a; omega)
      refine ⟨_, rfl, L, _, rfl, .inl ⟨SqL.of hL, fun t2 nt2 => q t2 _ (sm.trans (Same.new nt2)) ?_⟩⟩
      rw [upd_same, ek]
      show _ = some (HO.tup ((done ++ []).map fun (c : Nat) => V.int (c : Int)))
      rw [List.append_nil]
end
end Pr

namespace Pr
open PySem PySem.Spec PyProof.Rows L2 Gd
/-! ### where each subtree ends, from behind -/
theorem ext_nil {l : List (Str × Nat)} : ∀ n : Nat, ext l [] n = 0
  | 0 => rfl
  | _ + 1 => rfl
theorem ext_add {l : List (Str × Nat)} : ∀ (xs : List Str) (n m : Nat), ext l xs (n + m) = ext l xs n + ext l (xs.drop (ext l xs n)) m
  | xs, 0, m => by rw [ext_zero, List.drop_zero, Nat.zero_add, Nat.zero_add]
  | [], n + 1, m => by rw [ext_nil, ext_nil, List.drop_nil, ext_nil]
  | z :: xs, n + 1, m => by
    have e1 : n + 1 + m = (n + m) + 1 := by omega
    have e2 : n + m + ar l z = (n + ar l z) + m := by omega
    rw [e1]
    show 1 + ext l xs (n + m + ar l z) = 1 + ext l xs (n + ar l z) + ext l ((z :: xs).drop (1 + ext l xs (n + ar l z))) m
    rw [e2, ext_add xs (n + ar l z) m, Nat.add_comm 1 (ext l xs (n + ar l z)), List.drop_succ_cons]
    omega
/-- where the n trees from c on end, one after the other -/
def ends (l : List (Str × Nat)) (zs : List Str) : Nat → Nat → List Nat
  | _, 0 => []
  | c, n + 1 => (c + ext l (zs.drop c) 1) :: ends l zs (c + ext l (zs.drop c) 1) n
theorem ends_len {l : List (Str × Nat)} {zs : List Str} : ∀ {n c : Nat}, (ends l zs c n).length = n
  | 0, _ => rfl
  | n + 1, _ => congrArg (· + 1) ends_len
/-- after k trees from c on -/
def past (l : List (Str × Nat)) (zs : List Str) (c k : Nat) : Nat := c + ext l (zs.drop c) k
theorem past_succ {l : List (Str × Nat)} {zs : List Str} {c k : Nat} : past l zs c (k + 1) = past l zs c k + ext l (zs.drop (past l zs c k)) 1 := by
  unfold past
  rw [ext_add, List.drop_drop]
  omega
theorem ends_drop {l : List (Str × Nat)} {zs : List Str} : ∀ {k n c : Nat}, (ends l zs c (k + n)).drop k = ends l zs (past l zs c k) n
  | 0, n, c => by
    show (ends l zs c (0 + n)).drop 0 = ends l zs (c + ext l (zs.drop c) 0) n
    rw [ext_zero, List.drop_zero, Nat.zero_add, Nat.add_zero]
  | k + 1, n, c => by
    have e : k + 1 + n = (k + n) + 1 := by omega
    rw [e]
    show (ends l zs (c + ext l (zs.drop c) 1) (k + n)).drop k = _
    rw [ends_drop]
    have e2 : past l zs (c + ext l (zs.drop c) 1) k = past l zs c (k + 1) := by
      unfold past
      rw [show k + 1 = 1 + k by omega, ext_add (zs.drop c) 1 k, List.drop_drop]
      omega
    rw [e2]
theorem ends_cons {l : List (Str × Nat)} {zs : List Str} {c n : Nat} : ends l zs c (n + 1) = past l zs c 1 :: ends l zs (past l zs c 1) n := rfl
/-- the place behind the tree at j -/
def stopAt (l : List (Str × Nat)) (zs : List Str) (j : Nat) : Nat := past l zs j 1
theorem stop_eq {l : List (Str × Nat)} {zs : List Str} {j : Nat} (h : j < zs.length) : stopAt l zs j = past l zs (j + 1) (ar l zs[j]) := by
  unfold stopAt past
  rw [List.drop_eq_getElem_cons h]
  show j + (1 + ext l (zs.drop (j + 1)) (0 + ar l zs[j])) = _
  rw [Nat.zero_add]
  omega
end Pr

namespace Pr
open PySem PySem.Spec PyProof.Rows L2 Gd
theorem Fo.le {l : List (Str × Nat)} : ∀ {n : Nat} {zs : List Str}, Fo l n zs → n ≤ zs.length
  | _, _, .nil => Nat.le_refl _
  | _, _, .cons m h => by
    have := Fo.le h
    rw [List.length_cons]
    omega
theorem Fo.uniq {l : List (Str × Nat)} (nd : (l.map (·.1)).Nodup) : ∀ {zs : List Str} {n n' : Nat}, Fo l n zs → Fo l n' zs → n = n'
  | _, _, _, .nil, .nil => rfl
  | _, _, _, .cons m h, .cons m' h' => by
    have e := (ar_eq nd m).symm.trans (ar_eq nd m')
    have e2 := Fo.uniq nd h h'
    omega
def intV (c : Nat) : V := .int (c : Int)
theorem set_more {f : Nat → V} {N j : Nat} {v : V} (hj : j < N) (hv : v = f j) : ((List.range N).map fun q => if j + 1 ≤ q then f q else V.int 0).set j v = (List.range N).map fun q => if j ≤ q then f q else V.int 0 := by
  refine List.ext_getElem (by simp) fun q h1 h2 => ?_
  rw [List.getElem_set, List.getElem_map, List.getElem_map, List.getElem_range]
  by_cases e : j = q
  · subst e
    rw [if_pos rfl, if_pos (Nat.le_refl _), hv]
  · rw [if_neg e]
    by_cases c : j + 1 ≤ q
    · rw [if_pos c, if_pos (by omega)]
    · rw [if_neg c, if_neg (by omega)]
def spStops : Sp := fun vs H Q _ => ∃ (ad t : Addr) (l : List (Str × Nat)) (zs : List Str), vs = [.ref ad, .ref t] ∧ H ad = some (.dK (dkv l)) ∧ H t = some (.tup (zs.map V.str)) ∧ (l.map (·.1)).Nodup ∧ (∀ p ∈ l, p.2 ≤ 2) ∧ Fo l 1 zs ∧ zs.length ≤ 5000 ∧
  ∀ q H', Same H H' → H q = none → H' q = some (.lst ((List.range zs.length).map fun j => intV (stopAt l zs j))) → Q (.ref q) H'
section
variable {P : Program} {w : World} {K : PySem.W.Frag} {mg : Str → Option Value} {base : Heap}
theorem scStops : FnScope ["arities", "tree", "found", "waiting", "at", "stop", "turn", "name"] ["arities", "tree"] (defScope sStops) := ⟨rfl, rfl, rfl, by decide +kernel, rfl, by decide +kernel, by decide +kernel⟩
theorem ok_stops {f : Addr} {fd : FuncData} (F : Fun K "_law_stops" "_law_stops" sStops f fd) (T : Free mg) : FnOk P w K mg base CX0 1 f fd ["arities", "tree"] spStops := by
  refine F.ok scStops (fun vs H Q E h => ?_) (fun cdv A outer s H vs Q E hr h => ?_)
  · obtain ⟨ad, t, l, zs, rfl, _⟩ := h
    rfl
  · obtain ⟨ad, t, l, zs, rfl, had, ht, nd, two, fo, few, q⟩ := h
    have hu := hr.units
    have hu1 : ∀ {u : Nat}, u + 64 < cLine → u + 1 < cLine := fun h => by omega
    refine ⟨_, pss_cons (ps_par (i := 2) (j := 3) (by rfl) scStops.nd rfl rfl (by decide) rfl rfl (pa_cons (pe_lc (own := [("name", 7)]) (g := gName 7) (by rfl) scStops.nd (pi_tup (pv 1)) (blkOk_by (own := [("name", 7)]) (N := ["arities", "tree", "found", "waiting", "at", "stop", "turn", "name"]) (sc := defScope sStops) (by decide +kernel)) (fun _ _ _ _ _ => pg_name (i := 7) scStops.nd rfl (Or.inl rfl)) (fun _ _ _ _ _ => pts_nil) (fun _ _ _ _ _ => pe_int)) (pa_cons (pe_lst pa_nil) pa_nil)) (by rfl)) (pss_cons (ps_for PassesOwn.never rfl (pi_range3 (by rfl) T.range (pa_cons (pe_op op_sub (pe_callB call_len_seq (by rfl) T.len PySem.boot_len (pa_cons (pv 1) pa_nil)) pe_int) (pa_cons (pe_un un_neg pe_int) (pa_cons (pe_un un_neg pe_int) pa_nil)))) (pg_name (i := 4) scStops.nd rfl (.inl rfl)) (pss_cons (ps_set (i := 5) scStops.nd rfl (.inl rfl) (pe_op op_add (pv 4) pe_int)) (pss_cons (ps_for PassesOwn.never rfl (pi_range1 rfl T.range (pa_cons (pe_dget (hu1 hu) (pv 0) (pe_ix ix_tup (pv 1) (pv 4) (fun _ _ => rfl)) (fun _ _ => rfl)) pa_nil)) (pg_name (i := 6) scStops.nd rfl (.inl rfl)) (pss_one (ps_set (i := 5) scStops.nd rfl (.inl rfl) (pe_bm0 PySem.F.plainAttrs_list PySem.F.slot_list_pop PySem.F.type_list_pop mt_pop (pv 3))))) (pss_cons (ps_expr (pe_bm PySem.F.plainAttrs_list PySem.F.slot_list_append PySem.F.type_list_append mt_append (pv 3) (pa_cons (pv 5) pa_nil))) (pss_one (ps_asg (pv 5) (pg_sub (pv 2) (pv 4) set_list))))))) (pss_one (ps_ret (pv 2)))), ?_⟩
    have lz : (zs.map V.str).length = zs.length := List.length_map _
    refine ⟨_, rfl, t, rfl, ⟨_, SqT.of ht⟩, fun L nL => ?_⟩
    refine lc_tup (K := K) (a := t) (xs := zs.map V.str) (fun i G => G L = some (.lst (List.replicate i (V.int 0))) ∧ Same H G) ⟨upd_same, Same.new nL⟩ (fun i G _ ⟨_, s⟩ => SqT.of (s _ _ ht)) ?_ ?_
    · rintro i x G hx ⟨eL, s⟩
      have hi := (List.getElem?_eq_some_iff.mp hx).1
      rw [lz] at hi
      refine ⟨rfl, _, eL, by rw [List.length_replicate, sizeLine_eq]; omega, by rw [upd_same, List.replicate_succ'], fun b o q => by rw [upd_ne (ne_of_none q nL)]; exact s b o q⟩
    rintro G ⟨eL, s0⟩
    rw [lz] at eL
    refine ⟨by show 0 ≤ sizeLine; decide, fun W nW => ⟨_, _, rfl, ?_⟩⟩
    have s1 := s0.trans (Same.new nW (o := .lst []))
    have LW : L ≠ W := ne_of_none eL nW
    have nHW : H W = none := s0.free nW
    have pos : 0 < zs.length := fo.len
    refine ⟨_, rfl, t, _, rfl, .inr (SqT.of (s1 _ _ ht)), _, _, rfl, rfl, _, rfl, _, rfl, _, _, _, _, rfl, RgC.neg (by rw [lz]; omega) (by rw [lz]; omega) (by decide) (by decide), ?_⟩
    rw [lz]
    have eN : ((zs.length : Int) - 1 - (-1)).toNat = zs.length := by omega
    have s1L : (upd G W (.lst [])) L = some (.lst (List.replicate zs.length (V.int 0))) := by rw [upd_ne LW]; exact eL
    have nHL : H L = none := nL
    refine for_rangeC (lo := (zs.length : Int) - 1) (c := -1) (n := ((zs.length : Int) - 1 - (-1)).toNat) (fun i σ H' => ∃ (v4 v5 v6 : Option V) (n : Nat), σ = [some (.ref ad), some (.ref t), some (.ref L), some (.ref W), v4, v5, v6, none] ∧ Same H H' ∧
        H' L = some (.lst ((List.range zs.length).map fun q => if zs.length - i ≤ q then intV (stopAt l zs q) else V.int 0)) ∧ H' W = some (.lst ((ends l zs (zs.length - i) n).reverse.map intV)) ∧ Fo l n (zs.drop (zs.length - i)))
      ⟨none, none, none, 0, rfl, s1, ?_, upd_same, by rw [Nat.sub_zero, List.drop_length]; exact .nil⟩ ?_ ?_
    · rw [s1L]
      refine congrArg (fun x => some (HO.lst x)) (List.ext_getElem (by simp) fun q h1 h2 => ?_)
      rw [List.length_replicate] at h1
      rw [List.getElem_replicate, List.getElem_map, List.getElem_range, if_neg (by omega)]
    · rintro i σ H' hi ⟨v4, v5, v6, n, rfl, sm, hL, hW, fn⟩
      rw [eN] at hi
      obtain ⟨j, hj⟩ : ∃ j, zs.length - i = j + 1 := ⟨zs.length - i - 1, by omega⟩
      have jl : j < zs.length := by omega
      have ev : ((zs.length : Int) - 1 + (i : Nat) * (-1)) = (j : Int) := by omega
      have ej : zs.length - (i + 1) = j := by omega
      rw [ev, ej]
      rw [hj] at hL hW fn
      obtain ⟨m, fj⟩ := Fo.drop fo jl
      have hd : zs.drop j = zs[j] :: zs.drop (j + 1) := List.drop_eq_getElem_cons jl
      obtain ⟨a, ma, fa⟩ : ∃ a, (zs[j], a) ∈ l ∧ Fo l (m + a) (zs.drop (j + 1)) := by
        rw [hd] at fj
        cases fj with
        | cons m h => exact ⟨_, m, h⟩
      have en : n = m + a := Fo.uniq nd fn fa
      subst en
      have arz := ar_eq nd ma
      have a2 : a ≤ 2 := two _ ma
      have vz := val_some nd ma
      have hx : atI (zs.map V.str) (j : Int) = some (V.str zs[j]) := atI_nat (by rw [List.getElem?_map, List.getElem?_eq_getElem jl]; rfl)
      have st : stopAt l zs j = past l zs (j + 1) a := by rw [stop_eq jl, arz]
      refine ⟨_, rfl, _, _, rfl, rfl, ?_⟩
      refine ⟨_, rfl, _, rfl, _, rfl, t, _, _, _, rfl, rfl, SqT.of (sm _ _ ht), hx, ad, _, rfl, vz ▸ DGet.k (k := .inr zs[j]) (sm _ _ had), _, rfl, by omega, by omega, ?_⟩
      refine for_range (lo := 0) (n := (a : Int).toNat) (fun k σ H2 => ∃ v6 : Option V, σ = [some (.ref ad), some (.ref t), some (.ref L), some (.ref W), some (.int (j : Int)), some (intV (past l zs (j + 1) k)), v6, none] ∧ Same H H2 ∧
          H2 L = some (.lst ((List.range zs.length).map fun q => if j + 1 ≤ q then intV (stopAt l zs q) else V.int 0)) ∧ H2 W = some (.lst ((ends l zs (past l zs (j + 1) k) (m + (a - k))).reverse.map intV)))
        ⟨v6, ?_, sm, hL, ?_⟩ ?_ ?_
      · have e : past l zs (j + 1) 0 = j + 1 := by
          unfold past
          rw [ext_zero, Nat.add_zero]
        rw [e]
        show ([some (V.ref ad), some (V.ref t), some (V.ref L), some (V.ref W), some (V.int (j : Int)), some (V.int ((j : Int) + 1)), v6, none] : L2.St) = _
        have e2 : (j : Int) + 1 = ((j + 1 : Nat) : Int) := by omega
        rw [e2]
        rfl
      · have e : past l zs (j + 1) 0 = j + 1 := by
          unfold past
          rw [ext_zero, Nat.add_zero]
        rw [e, Nat.sub_zero]
        exact hW
      · rintro k σ H2 hk ⟨v6, rfl, sm2, hL2, hW2⟩
        have hk' : k < a := hk
        have er : m + (a - k) = (m + (a - (k + 1))) + 1 := by omega
        have eW : (ends l zs (past l zs (j + 1) k) (m + (a - k))).reverse.map intV = (ends l zs (past l zs (j + 1) (k + 1)) (m + (a - (k + 1)))).reverse.map intV ++ [intV (past l zs (j + 1) (k + 1))] := by
          rw [er, ends_cons, List.reverse_cons, List.map_append]
          have e : past l zs (past l zs (j + 1) k) 1 = past l zs (j + 1) (k + 1) := past_succ.symm
          rw [e]
          rfl
        rw [eW] at hW2
        refine ⟨_, rfl, .inl ⟨rfl, _, SqL.of hW2⟩, W, _, intV (past l zs (j + 1) (k + 1)), rfl, rfl, hW2, by simp, ?_⟩
        refine ⟨_, rfl, fun b u e => ?_, ?_, ?_⟩
        · rw [upd_ne (ne_of_none e nHW)]
          exact sm2 b u e
        · rw [upd_ne LW]
          exact hL2
        · rw [upd_same, List.dropLast_concat]
      · rintro σ H2 ⟨v6, rfl, sm2, hL2, hW2⟩
        have ea : (a : Int).toNat = a := Int.toNat_natCast a
        rw [ea, Nat.sub_self, Nat.add_zero, ← st] at hW2
        rw [ea, ← st]
        refine ⟨_, rfl, .inl ⟨rfl, _, SqL.of hW2⟩, _, rfl, W, _, _, rfl, rfl, hW2, ?_, ?_⟩
        · rw [List.length_map, List.length_reverse, ends_len, sizeLine_eq]
          have := fj.le
          rw [List.length_drop] at this
          omega
        have hL3 : (upd H2 W (.lst ((ends l zs (stopAt l zs j) m).reverse.map intV ++ [intV (stopAt l zs j)]))) L = some (.lst ((List.range zs.length).map fun q => if j + 1 ≤ q then intV (stopAt l zs q) else V.int 0)) := by
          rw [upd_ne LW]
          exact hL2
        refine ⟨_, rfl, _, rfl, _, rfl, L, _, (j : Int), j, rfl, rfl, hL3, ?_, ?_⟩
        · rw [List.length_map, List.length_range]
          unfold ixN
          rw [if_pos (by omega), if_pos (by omega)]; simp
        refine ⟨_, _, _, m + 1, rfl, fun b u e => ?_, ?_, ?_, ?_⟩
        · rw [upd_ne (ne_of_none e nHL), upd_ne (ne_of_none e nHW)]
          exact sm2 b u e
        · rw [upd_same]
          exact congrArg (fun x => some (HO.lst x)) (set_more (f := fun q => intV (stopAt l zs q)) jl rfl)
        · rw [upd_ne LW.symm, upd_same, ends_cons, List.reverse_cons, List.map_append]
          rfl
        · exact fj
    · rintro σ H' ⟨v4, v5, v6, n, rfl, sm, hL, hW, fn⟩
      rw [eN, Nat.sub_self] at hL
      refine ⟨_, rfl, q L H' sm nHL ?_⟩
      rw [hL]
      refine congrArg (fun x => some (HO.lst x)) (List.map_congr_left fun q _ => if_pos (Nat.zero_le _))
end
end Pr

/-! ### enumerate over a tuple -/
namespace PySem
namespace EnT
open PySem.W PySem.Calls PyProof.Rows AutoSeq1
section
variable {prog : Program} {w : World} {A : Around} {E : Value → Shared → Prop} {s : Shared} {it t : Addr} {i : Nat} {ys : Array Value}
theorem nextT {x : Value} {Q : Value → Shared → Prop} (hit : s.heap.IsTupleIter it t i) (ht : s.heap.IsTuple t ys) (hx : ys[i]? = some x) (hQ : ∀ h', h'.IsTupleIter it t (i + 1) → Heap.SameBut it s.heap h' → Q x { s with heap := h' }) : wpAny (model prog w) A (Builtin.SmallTypes.nextOf (.ref it)) Q E s := by
  obtain ⟨⟨o, ho, hc, hd⟩, ⟨ot, hot, _, nt, hdt⟩⟩ := And.intro (id hit) ht
  refine (show wpAny _ _ _ _ _ _ from wpAny_bind (wpAny_callSpecial?_slot (name := Str.ofString "__next__") hit.typeIs F.slot_tuple_iterator_next (wpAny_call_entry F.slot_tuple_iterator_next hit.typeIs F.entry_tuple_iterator_next ?_ (F.args_tuple_iterator_next_1 _))))
  refine (show wpAny _ _ (field (.ref it) 0 >>= _) _ _ s from wpAny_bind (wpAny_field ho hd (x := .ref t) rfl ?_))
  refine (show wpAny _ _ (if (Value.ref t == Value.none) = true then _ else _) _ _ s from ?_); rw [if_neg (show ¬ ((Value.ref t == Value.none) = true) from Bool.false_ne_true)]
  refine (show wpAny _ _ (field (.ref it) 1 >>= _) _ _ s from wpAny_bind (wpAny_field ho hd (x := .int i 0) rfl ?_))
  refine (show wpAny _ _ (seqItems? (.ref t) >>= _) _ _ s from wpAny_bind (wpAny_seqItems hot hdt ?_)); simp only [Int.toNat_natCast, hx]
  exact wpAny_bind (wpAny_setField ho hd (by simp) (wpAny_pure ⟨x, rfl, wpAny_pure (hQ _ ⟨_, Heap.get?_update_self _ ho (Obj.isFreed_of_fields (Obj.data_mapFields hd _)), (Obj.cls_mapFields ..).trans hc, by rw [Obj.data_mapFields hd]; simp [rawInt]⟩ (Heap.SameBut.update ..))⟩))
theorem lastT {Q : Value → Shared → Prop} (hh : A.handled = none) (hit : s.heap.IsTupleIter it t i) (ht : s.heap.IsTuple t ys) (hx : ys[i]? = none) (hE : ∀ h' e, Heap.ExtBut it s.heap h' → (∃ o, h'.get? e = some o ∧ o.cls = .type "StopIteration") → E (.ref e) { s with heap := h' }) : wpAny (model prog w) A (Builtin.SmallTypes.nextOf (.ref it)) Q E s := by
  obtain ⟨⟨o, ho, hc, hd⟩, ⟨ot, hot, _, nt, hdt⟩⟩ := And.intro (id hit) ht
  refine (show wpAny _ _ _ _ _ _ from wpAny_bind (wpAny_callSpecial?_slot (name := Str.ofString "__next__") hit.typeIs F.slot_tuple_iterator_next (wpAny_call_entry F.slot_tuple_iterator_next hit.typeIs F.entry_tuple_iterator_next ?_ (F.args_tuple_iterator_next_1 _))))
  refine (show wpAny _ _ (field (.ref it) 0 >>= _) _ _ s from wpAny_bind (wpAny_field ho hd (x := .ref t) rfl ?_))
  refine (show wpAny _ _ (if (Value.ref t == Value.none) = true then _ else _) _ _ s from ?_); rw [if_neg (show ¬ ((Value.ref t == Value.none) = true) from Bool.false_ne_true)]
  refine (show wpAny _ _ (field (.ref it) 1 >>= _) _ _ s from wpAny_bind (wpAny_field ho hd (x := .int i 0) rfl ?_))
  refine (show wpAny _ _ (seqItems? (.ref t) >>= _) _ _ s from wpAny_bind (wpAny_seqItems hot hdt ?_)); simp only [Int.toNat_natCast, hx]
  refine wpAny_bind (wpAny_rule (wpAny_bind (wpAny_setField ho hd (by simp) (show wpAny _ _ (newExc (.type "StopIteration") [] >>= _) _ _ _ from wpAny_bind ?_)))); simp only [newExc, newTuple]
  refine wpAny_bind (wpAny_newObj_type (wpAny_bind (m := firstArgMember _ _) (wpAny_of_eq (a := Value.none) (by first | rfl | (simp only [firstArgMember]; rfl)) (wpAny_newObj_type ?_ (by size_fits)))) (by size_fits)); simp only [raiseNew]
  refine wpAny_bind (wpAny_handled ?_); first | rw [show A.in1.handled = none from hh] | rw [hh]
  exact wpAny_bind (wpAny_pure (wpAny_throw (hE _ _ (((Heap.SameBut.update ..).extBut.push _).push _) ⟨_, Heap.get?_push_size _ rfl, rfl⟩)))
end
theorem drawsT {prog : Program} {w : World} {A : Around} (hh : A.handled = none) (it t : Addr) (hne : t ≠ it) (ys : Array Value) : Draws prog w A it [it, t] ys.size (fun i v => ys[i]? = some v) (fun i h => h.IsTupleIter it t i ∧ h.IsTuple t ys) where
  live := fun _ _ st => let ⟨o, ho, _⟩ := st.1; ⟨o, ho⟩
  frame := fun _ _ _ st hk => ⟨st.1.at fun o e => hk it (by simp) o e, let ⟨o, ho, r⟩ := st.2; ⟨o, hk t (by simp) o ho, r⟩⟩
  item := fun i s Q E hi st hQ => nextT st.1 st.2 (x := ys[i]) (by simp [hi]) fun h' a b => hQ _ h' s.toks (by simp [hi]) ⟨a, st.2.extBut b.extBut hne⟩ b
  done := fun s Q E st hE => lastT hh st.1 st.2 (by simp) hE
end EnT
end PySem
namespace PySem
namespace EnT
open PySem.W PySem.Calls PyProof.Rows AutoSeq1
theorem newT (l : Addr) (ys : Array Value) (n : Nat) (dct : Option Addr) (sl : Array (Option Value)) :
    Meets (Builtin.«enumerate.__new__» ⟨[.type "enumerate", .ref l], []⟩) (fun _ R s => s.heap.get? l = some { cls := .type "tuple", dict := dct, data := .seq ys n, slots := sl } ∧
      R (.ok (.ret (.ref (s.heap.push { cls := .type "tuple_iterator", data := .fields #[.ref l, .int 0 0] }).objs.size)))
        { s with heap := (s.heap.push { cls := .type "tuple_iterator", data := .fields #[.ref l, .int 0 0] }).push { cls := .type "enumerate", data := .fields #[.none, .bool false, .ref s.heap.objs.size, rawInt 0, .none, .none] } }) :=
  .of_wp fun prog w A R s h => by
    obtain ⟨hp, g, d, tk, os⟩ := s; obtain ⟨hl, h⟩ := h
    have c1 := sub_enumerate
    have c2 : Heap.IsTuple (Shared.heap ⟨hp, g, d, tk, os⟩) l ys := ⟨_, hl, rfl, n, rfl⟩
    wp_walk using wpAny_loadPart' hl
    refine wpAny_stack_any fun _ => wpAny_pure (show _ from ?_); split
    · rename_i c _ _ _ _ _
      cases (c == Value.type "enumerate") <;> (wp_walk using wpAny_loadPart' hl, wpAny_pyIter_tuple c2; exact ⟨_, rfl, h⟩)
    · wp_walk using wpAny_loadPart' hl, wpAny_pyIter_tuple c2
      exact ⟨_, rfl, h⟩
theorem callT {prog : Program} {w : World} {A : Around} {E : Value → Shared → Prop} {s : Shared} {l : Addr} {ys : Array Value} {Q : Value → Shared → Prop} (hL : s.heap.IsTuple l ys)
    (h : ∀ h', IsEnum h' (s.heap.objs.size + 1) s.heap.objs.size 0 .none → h'.IsTupleIter s.heap.objs.size l 0 → h'.objs.size = s.heap.objs.size + 2 → (∀ b o, s.heap.get? b = some o → h'.get? b = some o) → Q (.ref (s.heap.objs.size + 1)) { s with heap := h' }) :
    wpAny (model prog w) A (call (.type "enumerate") [.ref l]) Q E s := by
  obtain ⟨⟨c, dct, dt, sl⟩, hl, hc, n, hd⟩ := hL
  cases (show c = .type "tuple" from hc)
  cases (show dt = .seq ys n from hd)
  refine callType_new F.called_enumerate (by decide) (F.typeCall_enumerate_1 _) (F.newCall_enumerate_1 _) (fun o => F.args_object_init_2 o _) F.entry_enumerate_new (newT l ys n dct sl) ⟨hl, ?_⟩
  have z : (s.heap.push { cls := .type "tuple_iterator", data := .fields #[.ref l, .int 0 0] }).objs.size = s.heap.objs.size + 1 := Heap.size_push ..
  refine (show _ ∧ _ from ?_)
  rw [z]
  have e1 : IsEnum ((s.heap.push { cls := .type "tuple_iterator", data := .fields #[.ref l, .int 0 0] }).push { cls := .type "enumerate", data := .fields #[.none, .bool false, .ref s.heap.objs.size, rawInt 0, .none, .none] }) (s.heap.objs.size + 1) s.heap.objs.size 0 .none := by
    have q := Heap.get?_push_size (s.heap.push { cls := .type "tuple_iterator", data := .fields #[.ref l, .int 0 0] }) (o := { cls := .type "enumerate", data := .fields #[.none, .bool false, .ref s.heap.objs.size, rawInt 0, .none, .none] }) rfl
    rw [z] at q
    exact q
  exact ⟨⟨_, e1, rfl⟩, h _ e1 ⟨_, Heap.get?_push_of_some _ (Heap.get?_push_size _ rfl), rfl, rfl⟩ (by rw [Heap.size_push, z]) fun b o x => Heap.get?_push_of_some _ (Heap.get?_push_of_some _ x)⟩
theorem endT {prog : Program} {w : World} {A : Around} {E : Value → Shared → Prop} {s : Shared} {e it t : Addr} {j : Nat} {i : Int} {old : Value} {ys : Array Value} {Q : Option Value → Shared → Prop} (hh : A.handled = none) (he : IsEnum s.heap e it i old) (hit : s.heap.IsTupleIter it t j) (ht : s.heap.IsTuple t ys) (hx : ys[j]? = none)
    (hQ : ∀ h', Heap.ExtBut it s.heap h' → Q none { s with heap := h' }) : wpAny (model prog w) A (pyNext (.ref e)) Q E s := by
  have ty : s.TypeIs (.ref e) "enumerate" := ⟨_, he, rfl⟩
  unfold pyNext
  refine (show wpAny _ _ _ _ _ _ from wpAny_bind (wpAny_attempt (wpAny_callSpecial?_slot (name := Str.ofString "__next__") ty F.slot_enumerate_next (wpAny_call_entry F.slot_enumerate_next ty F.entry_enumerate_next ?_ (F.args_enumerate_next_1 _)))))
  refine (show wpAny _ _ (field (.ref e) 2 >>= _) _ _ _ from wpAny_bind (wpAny_field he rfl (x := .ref it) rfl ?_))
  refine wpAny_bind (lastT (show A.in1.handled = none from hh) hit ht hx fun h' x eb ⟨o, ho, hc⟩ => ?_)
  exact wpAny_bind (wpAny_isInstance (T := "StopIteration") (b := true) ⟨o, ho, hc⟩ isSubtype_stop (wpAny_pure (hQ _ eb)))
end EnT
end PySem
namespace L2
open PySem PySem.Spec PyProof.Rows
/-- the tuple at a, each item in a new pair -/
def Iet (K : PySem.W.Frag) (a : Addr) : It :=
  ⟨fun i H => ∃ (xs : List V) (x : V), SqT K H a xs ∧ xs[i]? = some x, fun i H v H' => ∃ U x, v = .ref U ∧ H U = none ∧ H' = upd H U (.tup [.int (i : Nat), x]) ∧ ∀ xs, SqT K H a xs → xs[i]? = some x, fun i H => ∃ xs : List V, SqT K H a xs ∧ xs.length ≤ i⟩
theorem turn_enT {P : Program} {w : World} {K : PySem.W.Frag} {elts : List Expr} {kk : Nat} {tpos : Pos} (a e it : Addr) (ne2 : a ≠ it) (ne3 : a ≠ e) :
    Turn P w K (.Tuple elts kk tpos) (Iet K a) [e, it] e (fun i h => (∃ old, IsEnum h e it ((i : Nat) : Int) old) ∧ h.IsTupleIter it a i ∧ e ≠ it) where
  mem := by simp
  obj := fun i h ⟨⟨old, he⟩, ⟨o, ho, hc, hd⟩, _⟩ b hb => by
    rcases (show b = e ∨ b = it by simpa using hb) with z | z
    · rw [z]; exact ⟨_, he, fun v q => nomatch q⟩
    · rw [z]; exact ⟨o, ho, fun v q => by rw [hd] at q; cases q⟩
  keep := fun i h h' ⟨⟨old, he⟩, hi, hne⟩ k => ⟨⟨old, k e (by simp) _ he⟩, hi.at fun o q => k it (by simp) o q, hne⟩
  item := by
    intro X hP hw hK hc i pins s σ H E I hf ⟨⟨old, he⟩, hit, hne⟩ ⟨xs, x, hq, hx⟩
    subst hP hw hK
    obtain ⟨its, rv, p, hz⟩ := I.tuple hq
    obtain ⟨u, hu, ru⟩ := rv.get hx
    have l1 : e < s.heap.objs.size := Heap.lt_size he
    have l2 : it < s.heap.objs.size := by obtain ⟨_, q, _⟩ := hit; exact Heap.lt_size q
    have hi : i < its.toArray.size := by
      have := (List.getElem?_eq_some_iff.mp hu).1
      simpa using this
    have D := PySem.EnT.drawsT (prog := X.prog) (w := X.w) (A := X.A.in1) (show X.A.in1.handled = none from I.ok.hd hc) it a ne2 its.toArray
    refine wpAny_pyNext_enum_itemD D he ⟨hit, (show s.heap.IsTuple a its.toArray from p)⟩ hi hne (by simp [hne, Ne.symm ne3]) fun x' h' tk hP ho hit' hT hsz hk => ?_
    have ex : x' = u := by
      have q : its.toArray[i]? = some x' := hP
      rw [List.getElem?_toArray, hu] at q
      exact (Option.some.inj q).symm
    subst ex
    refine ⟨_, rfl, wpAny_letOwnedTupleGo_enum (s := { s with heap := h', toks := tk + 1 }) ho fun h'' he' sb => ?_⟩
    have t2 : h''.get? s.heap.objs.size = some { cls := .type "tuple", data := .seq #[.int i tk, x'] } := (sb.2 _ (Nat.ne_of_gt l1)).trans hT
    have fresh : ObjOk X.prog X.w (upd H s.heap.objs.size (.tup [.int (i : Nat), x])) h'' s.heap.objs.size (.tup [.int (i : Nat), x]) := ⟨by show 2 ≤ sizeLine; decide, [.int i tk, x'], .cons ⟨_, rfl⟩ (.cons ru .nil), ⟨_, t2, rfl, _, rfl⟩⟩
    have J : Inv X pins σ (upd H s.heap.objs.size (.tup [.int (i : Nat), x])) { s with heap := h'', toks := tk + 1 } := I.turnedNew (ch := [e, it]) (fun b ob hb q => (sb.2 b (fun z => hb (by simp [z]))).trans (hk b ob (fun z => hb (by simp [z])) (fun z => hb (by simp [z])) q)) hf (Nat.le_refl _) fresh
    refine ⟨.ref s.heap.objs.size, _, J, rfl, ⟨_, x, rfl, I.hok.fresh (Nat.le_refl _), rfl, fun zs hy => by rw [I.tuple_inj hy hq]; exact hx⟩, ⟨⟨x', ?_⟩, hit'.1.at fun o q => (sb.2 it (Ne.symm hne)).trans q, hne⟩, fun b hb => ?_⟩
    · rw [show ((i + 1 : Nat) : Int) = (i : Int) + 1 by omega]
      exact he'
    · have lb : b < s.heap.objs.size := by
        rcases (show b = e ∨ b = it by simpa using hb) with z | z <;> rw [z] <;> assumption
      rw [upd_ne (Nat.ne_of_lt lb)]
      exact (hf b hb).1
  done := by
    intro X hP hw hK hc i pins s σ H E I hf ⟨⟨old, he⟩, hit, hne⟩ ⟨xs, hq, hx⟩
    subst hP hw hK
    obtain ⟨its, rv, p, hz⟩ := I.tuple hq
    obtain ⟨f0, f1, f2, f3, f4, f5⟩ := hf it (by simp)
    have hl := rv.length
    exact PySem.EnT.endT (I.ok.hd hc) he hit (show s.heap.IsTuple a its.toArray from p) (by simp; omega) fun h' eb => ⟨rfl, I.turned (t' := s.toks) (fun b o hb q => eb b o hb q) f0 f1 f3 f4 f5⟩
  self := fun A i s Q E ⟨⟨_, he⟩, _⟩ h => wpAny_pyIter_enum he h
def iEnumT (K : PySem.W.Frag) (ta : TA) : TI := fun σ H R => ta σ H fun vs H1 => ∃ a xs, vs = [.ref a] ∧ SqT K H1 a xs ∧ R (Iet K a) H1
/-- enumerate(a tuple) -/
theorem pi_enumT {X : Cx} {e : Expr} {ta : TA} {p pos tpos : Pos} {elts : List Expr} {kk : Nat} (hg : Gl X "enumerate") (hm : X.mg "enumerate" = none) (ha : PA X [e] ta) (hs : starEach [e] X.env = [(false, eval e X.env)] := by rfl) : PI X (.Tuple elts kk tpos) (.Call (.Name "enumerate" p) [e] [] pos) (iEnumT X.K ta) := by
  refine ⟨fun pins s σ H R I h => ?_⟩
  refine Call_ (ld_blt I hg hm boot_enumerate (PyProof.Rows.callWith_type1 (thn (ha.run pos pins s σ H _ I h) fun us s1 ⟨vs, H1, I1, r1, a, xs, ex, hq, q⟩ => ?_) hs rfl))
  subst ex
  rw [Vals.ref1 r1]
  obtain ⟨its, rv, pt, hz⟩ := I1.tuple hq
  have old : a < s1.heap.objs.size := by
    obtain ⟨o, ho, _⟩ := (show s1.heap.IsTuple a its.toArray from pt)
    exact Heap.lt_size ho
  refine PySem.EnT.callT (show s1.heap.IsTuple a its.toArray from pt) fun h' he hit hsz hk => wpAny_pyIter_enum he ?_
  have I2 : Inv X pins σ H1 { s1 with heap := h' } := I1.kept (t' := s1.toks) hk
  refine ⟨s1.heap.objs.size + 1, [s1.heap.objs.size + 1, s1.heap.objs.size], _, _, H1, rfl, I2, turn_enT a (s1.heap.objs.size + 1) s1.heap.objs.size (Nat.ne_of_lt old) (Nat.ne_of_lt (Nat.lt_succ_of_lt old)), ⟨⟨.none, he⟩, hit, Nat.succ_ne_self _⟩, fun b hb => ?_, q⟩
  have hle : s1.heap.objs.size ≤ b := by
    rcases (show b = s1.heap.objs.size + 1 ∨ b = s1.heap.objs.size by simpa using hb) with z | z
    · rw [z]; exact Nat.le_succ _
    · rw [z]; exact Nat.le_refl _
  exact I1.fpOk hle (I1.hok.fresh hle)
theorem walk_enumT {K : PySem.W.Frag} {a : Addr} {xs : List V} : Walk (Iet K a) xs.length (fun H => SqT K H a xs) (YPair (fun i => some (.int (i : Nat))) (fun i => xs[i]?)) := by
  refine ⟨fun i _ hi q => ⟨xs, xs[i], q, by simp [hi]⟩, fun _ q => ⟨xs, q, Nat.le_refl _⟩, fun i H v H' _ q y => ?_⟩
  obtain ⟨U, x, h1, h2, h3, h4⟩ := y
  exact ⟨U, .int (i : Nat), x, h1, h2, h3, rfl, h4 xs q⟩
end L2
namespace Pr
open PySem PySem.Spec PyProof.Rows L2 Gd
/-! ### the places right above -/
def optV : Option Nat → V
  | none => .non
  | some k => .int (k : Int)
/-- the place above each word; ws are those that still wait for subtrees -/
def parL (l : List (Str × Nat)) : List Str → Nat → List (Option Nat) → List (Option Nat)
  | [], _, _ => []
  | _ :: _, _, [] => []
  | z :: zs, k, w :: ws => w :: parL l zs (k + 1) (List.replicate (ar l z) (some k) ++ ws)
def spParents (C : Addr) : Sp := fun vs H Q _ => ∃ (o t : Addr) (l : List (Str × Nat)) (zs : List Str), vs = [.ref o, .ref t] ∧ TreeAt H C o t l zs ∧ ∀ q H', Same H H' → H q = none → H' q = some (.lst ((parL l zs 0 [none]).map optV)) → Q (.ref q) H'
section
variable {P : Program} {w : World} {K : PySem.W.Frag} {mg : Str → Option Value} {base : Heap} {C fW fT fC fP fE fI fN : Addr} {dW dT dC dP dE dI dN : FuncData} {tk : Tok}
theorem scParents : FnScope ["self", "tree", "parents", "waiting", "at", "word"] ["self", "tree"] (defScope mParents) := ⟨rfl, rfl, rfl, by decide +kernel, rfl, by decide +kernel, by decide +kernel⟩
theorem ok_parents {f : Addr} {fd : FuncData} (F : Fun K "_parents" "Operators._parents" mParents f fd) (M : Ms K mg C fW fT fC fP fE fI fN dW dT dC dP dE dI dN tk) (T : Free mg) : FnOk P w K mg base CX0 1 f fd ["self", "tree"] (spParents C) := by
  refine F.ok scParents (fun vs H Q E h => ?_) (fun cdv A outer s H vs Q E hr h => ?_)
  · obtain ⟨o, t, l, zs, rfl, _⟩ := h
    rfl
  · obtain ⟨o, t, l, zs, rfl, tr, q⟩ := h
    have hu := hr.units
    have hu1 : ∀ {u : Nat}, u + 64 < cLine → u + 1 < cLine := fun h => by omega
    refine ⟨_, pss_cons (ps_set (i := 2) scParents.nd rfl (.inl rfl) (pe_lst pa_nil)) (pss_cons (ps_set (i := 3) scParents.nd rfl (.inl rfl) (pe_lst (pa_cons pe_non pa_nil))) (pss_cons (ps_for PassesOwn.never rfl (pi_enumT (by rfl) T.enumerate (pa_cons (pv 1) pa_nil)) (pg_tup rfl (pgs_cons (pg_name (i := 4) scParents.nd rfl (.inl rfl)) (pgs_cons (pg_name (i := 5) scParents.nd rfl (.inl rfl)) pgs_nil))) (pss_cons (ps_expr (pe_bm PySem.F.plainAttrs_list PySem.F.slot_list_append PySem.F.type_list_append mt_append (pv 2) (pa_cons (pe_bm0 PySem.F.plainAttrs_list PySem.F.slot_list_pop PySem.F.type_list_pop mt_pop (pv 3)) pa_nil))) (pss_one (ps_expr (pe_bm PySem.F.plainAttrs_list PySem.F.slot_list_extend PySem.F.type_list_extend mt_extend (pv 3) (pa_cons (pe_op op_rep (pe_lst (pa_cons (pv 4) pa_nil)) (pe_dget (hu1 hu) (pe_fld (pv 0) rfl) (pv 5) (fun _ _ => rfl))) pa_nil)))))) (pss_one (ps_ret (pv 2))))), ?_⟩
    obtain ⟨dx, tn, ta, tl, ho, hn, ha⟩ := tr.ops.ex
    have lz : (zs.map V.str).length = zs.length := List.length_map _
    have few := tr.few
    refine ⟨by show 0 ≤ sizeLine; decide, fun L nL => ⟨by show 1 ≤ sizeLine; decide, fun W nW => ?_⟩⟩
    have LW : L ≠ W := ne_of_none (upd_same (H := H) (a := L) (o := .lst [])) nW
    have s1 := (Same.new nL (o := .lst [])).trans (Same.new nW (o := .lst [.non]))
    have nHW : H W = none := (Same.new nL (o := .lst [])).free nW
    refine ⟨_, rfl, t, _, rfl, SqT.of (s1 _ _ tr.tup), ?_⟩
    refine for_it (walk_enumT (xs := zs.map V.str)) (fun i σ H' => ∃ (v4 v5 : Option V) (done ws : List (Option Nat)), σ = [some (.ref o), some (.ref t), some (.ref L), some (.ref W), v4, v5] ∧ Same H H' ∧ H' L = some (.lst (done.map optV)) ∧ H' W = some (.lst (ws.reverse.map optV)) ∧
        parL l zs 0 [none] = done ++ parL l (zs.drop i) i ws ∧ Fo l ws.length (zs.drop i) ∧ done.length = i)
      ⟨none, none, [], [none], rfl, s1, (Same.new nW) _ _ upd_same, upd_same, rfl, tr.fo, rfl⟩ (fun i σ H' _ ⟨_, _, _, _, _, s, _⟩ => SqT.of (s _ _ tr.tup)) ?_ ?_
    · rintro i x σ H' G hi ⟨v4, v5, done, ws, rfl, sm, hL, hW, ep, fo, ld⟩ ⟨U, x1, x2, rfl, nU, rfl, e1, e2⟩
      rw [lz] at hi
      cases e1
      have hd : zs.drop i = zs[i] :: zs.drop (i + 1) := List.drop_eq_getElem_cons hi
      have e3 : (zs.map V.str)[i]? = some x2 := e2
      rw [List.getElem?_map, List.getElem?_eq_getElem hi] at e3
      cases (Option.some.inj e3)
      rw [hd] at ep fo
      cases ws with
      | nil => cases fo
      | cons w0 ws =>
      obtain ⟨a, ma, fa⟩ : ∃ a, (zs[i], a) ∈ l ∧ Fo l (ws.length + a) (zs.drop (i + 1)) := by
        cases fo with
        | cons m h => exact ⟨_, m, h⟩
      have arz := ar_eq tr.nd ma
      have a2 : a ≤ 2 := tr.two _ ma
      have s2 := sm.trans (Same.new nU (o := .tup [.int (i : Nat), .str zs[i]]))
      have hL2 := (Same.new nU (o := .tup [.int (i : Nat), .str zs[i]])) _ _ hL
      have hW2 := (Same.new nU (o := .tup [.int (i : Nat), .str zs[i]])) _ _ hW
      rw [List.reverse_cons, List.map_append] at hW2
      have UL : U ≠ L := fun e => by
        rw [e, hL] at nU
        cases nU
      have UW : U ≠ W := fun e => by
        rw [e, hW] at nU
        cases nU
      refine ⟨U, _, rfl, SqT.of upd_same, rfl, ?_⟩
      have s3 : ∀ (x y : HO), Same H (upd (upd (upd H' U (.tup [.int (i : Nat), .str zs[i]])) W x) L y) := fun x y b u e => by
        rw [upd_ne (ne_of_none e nL), upd_ne (ne_of_none e nHW)]
        exact s2 b u e
      refine ⟨_, _, rfl, _, _, rfl, rfl, ?_⟩
      refine ⟨_, rfl, .inl ⟨rfl, _, SqL.of hL2⟩, _, rfl, .inl ⟨rfl, _, SqL.of hW2⟩, W, _, optV w0, rfl, rfl, hW2, by simp, ?_⟩
      have dl : (ws.reverse.map optV ++ [w0].map optV).dropLast = ws.reverse.map optV := List.dropLast_concat
      rw [dl]
      have hL3 : (upd (upd H' U (.tup [.int (i : Nat), .str zs[i]])) W (.lst (ws.reverse.map optV))) L = some (.lst (done.map optV)) := by rw [upd_ne LW]; exact hL2
      refine ⟨L, done.map optV, optV w0, rfl, rfl, hL3, by rw [List.length_map, sizeLine_eq]; omega, ?_⟩
      have s4 := s3 (.lst (ws.reverse.map optV)) (.lst (done.map optV ++ [optV w0]))
      have hL4 : (upd (upd (upd H' U (.tup [.int (i : Nat), .str zs[i]])) W (.lst (ws.reverse.map optV))) L (.lst (done.map optV ++ [optV w0]))) L = some (.lst (done.map optV ++ [optV w0])) := upd_same
      have hW4 : (upd (upd (upd H' U (.tup [.int (i : Nat), .str zs[i]])) W (.lst (ws.reverse.map optV))) L (.lst (done.map optV ++ [optV w0]))) W = some (.lst (ws.reverse.map optV)) := by rw [upd_ne LW.symm, upd_same]
      generalize upd (upd (upd H' U (.tup [.int (i : Nat), .str zs[i]])) W (.lst (ws.reverse.map optV))) L (.lst (done.map optV ++ [optV w0])) = G4 at s4 hL4 hW4 ⊢
      refine ⟨_, rfl, .inl ⟨rfl, _, SqL.of hW4⟩, _, rfl, by show 1 ≤ sizeLine; decide, fun q1 nq1 => ?_⟩
      have s5 := s4.trans (Same.new nq1 (o := .lst [.int (i : Nat)]))
      have wl : ws.length + a ≤ 5000 := by
        have := fa.le
        rw [List.length_drop] at this
        omega
      have ea : (a : Int).toNat = a := Int.toNat_natCast a
      refine ⟨_, rfl, o, C, dx, _, _, rfl, s5 _ _ ho, M.cf.cls, M.cf.n2, rfl, _, rfl, ta, _, rfl, val_some tr.nd ma ▸ DGet.k (k := .inr zs[i]) (s5 _ _ ha), q1, (a : Int), [.int (i : Nat)], rfl, rfl, upd_same, by omega, by omega, by rw [ea, sizeLine_eq]; show 1 * a ≤ _; omega, fun q2 nq2 => ?_⟩
      have hW6 := (Same.new nq2 (o := .lst (List.replicate (a : Int).toNat [V.int (i : Nat)]).flatten)) _ _ ((Same.new nq1 (o := .lst [.int (i : Nat)])) _ _ hW4)
      have hL6 := (Same.new nq2 (o := .lst (List.replicate (a : Int).toNat [V.int (i : Nat)]).flatten)) _ _ ((Same.new nq1 (o := .lst [.int (i : Nat)])) _ _ hL4)
      have s6 := s5.trans (Same.new nq2 (o := .lst (List.replicate (a : Int).toNat [V.int (i : Nat)]).flatten))
      have fl : (List.replicate (a : Int).toNat [V.int (i : Nat)]).flatten = List.replicate a (V.int (i : Nat)) := by rw [ea, List.flatten_replicate_singleton]
      refine ⟨W, q2, _, _, rfl, rfl, hW6, upd_same, by rw [fl, List.length_map, List.length_reverse, List.length_replicate, sizeLine_eq]; omega, ?_⟩
      refine ⟨_, _, done ++ [w0], List.replicate a (some i) ++ ws, rfl, fun b u e => ?_, ?_, ?_, ?_, ?_, by simp [ld]⟩
      · rw [upd_ne (ne_of_none e nHW)]
        exact s6 b u e
      · rw [upd_ne LW, hL6, List.map_append]
        rfl
      · rw [upd_same, fl, List.reverse_append, List.reverse_replicate, List.map_append, List.map_replicate]
        rfl
      · rw [ep, List.append_assoc]
        show done ++ (w0 :: parL l (zs.drop (i + 1)) (i + 1) (List.replicate (ar l zs[i]) (some i) ++ ws)) = _
        rw [arz]
        rfl
      · rw [List.length_append, List.length_replicate, Nat.add_comm]
        exact fa
    · rintro σ H' ⟨v4, v5, done, ws, rfl, sm, hL, hW, ep, fo, ld⟩
      refine ⟨_, rfl, q L H' sm nL ?_⟩
      rw [hL, ep, lz, List.drop_length]
      show _ = some (HO.lst ((done ++ []).map optV))
      rw [List.append_nil]
end
end Pr

namespace Pr
open PySem PySem.Spec PyProof.Rows L2 Gd
/-! ### the way down to each place -/
/-- the way to each word; ws are the ways to the subtrees that still wait -/
def paths (l : List (Str × Nat)) : List Str → Nat → List (List Nat) → List (List Nat)
  | [], _, _ => []
  | _ :: _, _, [] => []
  | z :: zs, k, w :: ws => w :: paths l zs (k + 1) (List.replicate (ar l z) (w ++ [k]) ++ ws)
theorem parL_paths {l : List (Str × Nat)} : ∀ (zs : List Str) (k : Nat) (ws : List (List Nat)), parL l zs k (ws.map List.getLast?) = (paths l zs k ws).map List.getLast?
  | [], _, _ => by simp [parL, paths]
  | _ :: _, _, [] => rfl
  | z :: zs, k, w :: ws => by
    show w.getLast? :: parL l zs (k + 1) (List.replicate (ar l z) (some k) ++ ws.map List.getLast?) = w.getLast? :: (paths l zs (k + 1) (List.replicate (ar l z) (w ++ [k]) ++ ws)).map List.getLast?
    rw [← parL_paths zs (k + 1), List.map_append, List.map_replicate, List.getLast?_concat]
/-- how deep each word lies, counted from 1 -/
def dpt (l : List (Str × Nat)) : List Str → List Nat → List Nat
  | [], _ => []
  | _ :: _, [] => []
  | z :: zs, d :: ds => d :: dpt l zs (List.replicate (ar l z) (d + 1) ++ ds)
theorem paths_dpt {l : List (Str × Nat)} : ∀ (zs : List Str) (k : Nat) (ws : List (List Nat)), (paths l zs k ws).map (fun w => w.length + 1) = dpt l zs (ws.map fun w => w.length + 1)
  | [], _, _ => by simp [dpt, paths]
  | _ :: _, _, [] => rfl
  | z :: zs, k, w :: ws => by
    show (w.length + 1) :: (paths l zs (k + 1) (List.replicate (ar l z) (w ++ [k]) ++ ws)).map (fun w => w.length + 1) = (w.length + 1) :: dpt l zs (List.replicate (ar l z) (w.length + 1 + 1) ++ ws.map fun w => w.length + 1)
    rw [paths_dpt zs (k + 1), List.map_append, List.map_replicate, List.length_append]
    rfl
theorem ext_lt {l : List (Str × Nat)} (nd : (l.map (·.1)).Nodup) {zs : List Str} {n j k : Nat} (h : Fo l n zs) (jk : j < k) (kn : k ≤ n) : ext l zs j < ext l zs k := by
  have h' : Fo l (j + (n - j)) zs := by
    rw [Nat.add_sub_cancel' (by omega)]
    exact h
  have f := (ext_fo nd h').1
  obtain ⟨r, hr⟩ : ∃ r, k = j + (r + 1) := ⟨k - j - 1, by omega⟩
  obtain ⟨r2, hr2⟩ : ∃ r, n - j = r + 1 := ⟨n - j - 1, by omega⟩
  rw [hr, ext_add]
  rw [hr2] at f
  cases e : zs.drop (ext l zs j) with
  | nil =>
    rw [e] at f
    cases f
  | cons z xs =>
    show _ < _ + (1 + ext l xs (r + ar l z))
    omega
theorem past_lt {l : List (Str × Nat)} (nd : (l.map (·.1)).Nodup) {zs : List Str} {i n j k : Nat} (h : Fo l n (zs.drop i)) (jk : j < k) (kn : k ≤ n) : past l zs i j < past l zs i k := by
  have := ext_lt nd h jk kn
  unfold past
  omega
theorem past_le {l : List (Str × Nat)} (nd : (l.map (·.1)).Nodup) {zs : List Str} {i n j k : Nat} (h : Fo l n (zs.drop i)) (jk : j ≤ k) (kn : k ≤ n) : past l zs i j ≤ past l zs i k := by
  by_cases e : j = k
  · rw [e]; exact Nat.le_refl _
  · exact Nat.le_of_lt (past_lt nd h (by omega) kn)
theorem past_zero {l : List (Str × Nat)} {zs : List Str} {i : Nat} : past l zs i 0 = i := by
  unfold past
  rw [ext_zero, Nat.add_zero]
theorem past_next {l : List (Str × Nat)} {zs : List Str} {i j : Nat} (h : i < zs.length) : past l zs i (j + 1) = past l zs (i + 1) (j + ar l zs[i]) := by
  unfold past
  rw [List.drop_eq_getElem_cons h]
  show i + (1 + ext l (zs.drop (i + 1)) (j + ar l zs[i])) = _
  omega
theorem mem_kidsFrom {l : List (Str × Nat)} {zs : List Str} : ∀ {n c k : Nat}, k < n → past l zs c k ∈ kidsFrom l zs c n
  | n + 1, c, 0, _ => by
    rw [past_zero]
    exact List.mem_cons_self
  | n + 1, c, k + 1, h => by
    refine List.mem_cons_of_mem _ ?_
    have e : past l zs c (k + 1) = past l zs (c + ext l (zs.drop c) 1) k := by
      unfold past
      rw [show k + 1 = 1 + k by omega, ext_add (zs.drop c) 1 k, List.drop_drop]
      omega
    rw [e]
    exact mem_kidsFrom (Nat.lt_of_succ_lt_succ h)
/-- the places above i, as the law counts them -/
def abv (l : List (Str × Nat)) (zs : List Str) (i : Nat) : List Nat := (List.range i).filter fun a => decide (i < stopAt l zs a)
structure PIn (l : List (Str × Nat)) (zs : List Str) (i : Nat) (ws : List (List Nat)) : Prop where
  fo : Fo l ws.length (zs.drop i)
  op : ∀ j w, ws[j]? = some w → w = (List.range i).filter fun a => decide (past l zs i j < stopAt l zs a)
  lam : ∀ b, b < i → stopAt l zs b ≤ i ∨ ∃ m, 1 ≤ m ∧ m ≤ ws.length ∧ stopAt l zs b = past l zs i m
  kid : ∀ j w k, ws[j]? = some w → w.getLast? = some k → k < i ∧ (∃ (hk : k < zs.length) (c : Nat), c < ar l zs[k] ∧ past l zs i j = past l zs (k + 1) c) ∧ (paths l zs 0 [[]])[k]? = some w.dropLast
  tl : ∃ done, done.length = i ∧ paths l zs 0 [[]] = done ++ paths l (zs.drop i) i ws
theorem PIn.start {l : List (Str × Nat)} {zs : List Str} (fo : Fo l 1 zs) : PIn l zs 0 [[]] := by
  refine ⟨fo, fun j w h => ?_, fun b h => absurd h (Nat.not_lt_zero _), fun j w k h e => ?_, [], rfl, rfl⟩
  · cases j with
    | zero => cases h; rfl
    | succ j => cases h
  · cases j with
    | zero => cases h; cases e
    | succ j => cases h
theorem PIn.next {l : List (Str × Nat)} (nd : (l.map (·.1)).Nodup) {zs : List Str} {i : Nat} (hi : i < zs.length) {w0 : List Nat} {ws : List (List Nat)} (h : PIn l zs i (w0 :: ws)) : PIn l zs (i + 1) (List.replicate (ar l zs[i]) (w0 ++ [i]) ++ ws) := by
  have hd : zs.drop i = zs[i] :: zs.drop (i + 1) := List.drop_eq_getElem_cons hi
  have fo := h.fo
  rw [hd] at fo
  obtain ⟨a, ma, fa⟩ : ∃ a, (zs[i], a) ∈ l ∧ Fo l (ws.length + a) (zs.drop (i + 1)) := by
    cases fo with
    | cons m h => exact ⟨_, m, h⟩
  have arz := ar_eq nd ma
  have st : stopAt l zs i = past l zs (i + 1) a := by rw [stop_eq hi, arz]
  have nx : ∀ j, past l zs i (j + 1) = past l zs (i + 1) (j + a) := fun j => by rw [past_next hi, arz]
  have w0e := h.op 0 w0 rfl
  rw [past_zero] at w0e
  have atP : (paths l zs 0 [[]])[i]? = some w0 := by
    obtain ⟨done, ld, e⟩ := h.tl
    rw [e, List.getElem?_append_right (by omega), ld, Nat.sub_self, hd]
    rfl
  rw [arz]
  refine ⟨?_, ?_, ?_, ?_, ?_⟩
  · rw [List.length_append, List.length_replicate, Nat.add_comm]
    exact fa
  · intro j w hw
    rw [List.range_succ, List.filter_append]
    by_cases ja : j < a
    · rw [List.getElem?_append_left (by rw [List.length_replicate]; exact ja), List.getElem?_replicate, if_pos ja] at hw
      cases hw
      have lt : past l zs (i + 1) j < stopAt l zs i := by
        rw [st]
        exact past_lt nd fa ja (by omega)
      have ge : i + 1 ≤ past l zs (i + 1) j := by
        unfold past
        omega
      have e1 : ([i].filter fun a => decide (past l zs (i + 1) j < stopAt l zs a)) = [i] := by
        rw [List.filter_cons_of_pos (by simpa using lt)]
        rfl
      rw [e1, w0e]
      congr 1
      refine List.filter_congr fun b hb => ?_
      have hb' := List.mem_range.mp hb
      rw [decide_eq_decide]
      constructor
      · intro c
        rcases h.lam b hb' with q | ⟨m, m1, m2, em⟩
        · omega
        · rw [em]
          have h1 : past l zs i 1 ≤ past l zs i m := past_le nd h.fo m1 m2
          have h2 : past l zs i 1 = stopAt l zs i := rfl
          omega
      · intro c
        omega
    · have hj : ws[j - a]? = some w := by
        rw [List.getElem?_append_right (by rw [List.length_replicate]; omega), List.length_replicate] at hw
        exact hw
      have o := h.op (j - a + 1) w (by rw [List.getElem?_cons_succ]; exact hj)
      have jl := (List.getElem?_eq_some_iff.mp hj).1
      rw [nx, Nat.sub_add_cancel (by omega)] at o
      have e1 : ([i].filter fun a => decide (past l zs (i + 1) j < stopAt l zs a)) = [] := by
        rw [List.filter_cons_of_neg]
        · rfl
        · have : stopAt l zs i ≤ past l zs (i + 1) j := by
            rw [st]
            exact past_le nd fa (by omega) (by omega)
          simpa using this
      rw [e1, List.append_nil]
      exact o
  · intro b hb
    rw [List.length_append, List.length_replicate]
    by_cases e : b = i
    · subst e
      by_cases a0 : a = 0
      · left
        rw [st, a0, past_zero]
        exact Nat.le_refl _
      · exact .inr ⟨a, by omega, by omega, st⟩
    · rcases h.lam b (by omega) with q | ⟨m, m1, m2, em⟩
      · exact .inl (by omega)
      · obtain ⟨m', rfl⟩ : ∃ m', m = m' + 1 := ⟨m - 1, by omega⟩
        rw [nx] at em
        rw [List.length_cons] at m2
        by_cases z : m' + a = 0
        · left
          rw [em, z, past_zero]
          exact Nat.le_refl _
        · exact .inr ⟨m' + a, by omega, by omega, em⟩
  · intro j w k hw hk
    by_cases ja : j < a
    · rw [List.getElem?_append_left (by rw [List.length_replicate]; exact ja), List.getElem?_replicate, if_pos ja] at hw
      cases hw
      rw [List.getLast?_concat] at hk
      cases hk
      refine ⟨Nat.lt_succ_self _, ⟨hi, j, by rw [arz]; exact ja, rfl⟩, ?_⟩
      rw [List.dropLast_concat]
      exact atP
    · have hj : ws[j - a]? = some w := by
        rw [List.getElem?_append_right (by rw [List.length_replicate]; omega), List.length_replicate] at hw
        exact hw
      obtain ⟨k1, ⟨k2, c, c1, c2⟩, k3⟩ := h.kid (j - a + 1) w k (by rw [List.getElem?_cons_succ]; exact hj) hk
      rw [nx, Nat.sub_add_cancel (by omega)] at c2
      exact ⟨by omega, ⟨k2, c, c1, c2⟩, k3⟩
  · obtain ⟨done, ld, e⟩ := h.tl
    refine ⟨done ++ [w0], by rw [List.length_append, ld]; rfl, ?_⟩
    rw [e, hd, List.append_assoc]
    show done ++ (w0 :: paths l (zs.drop (i + 1)) (i + 1) (List.replicate (ar l zs[i]) (w0 ++ [i]) ++ ws)) = _
    rw [arz]
    rfl
theorem PIn.all {l : List (Str × Nat)} (nd : (l.map (·.1)).Nodup) {zs : List Str} (fo : Fo l 1 zs) : ∀ i, i ≤ zs.length → ∃ ws, PIn l zs i ws
  | 0, _ => ⟨_, .start fo⟩
  | i + 1, h => by
    obtain ⟨ws, p⟩ := PIn.all nd fo i (by omega)
    cases ws with
    | nil =>
      have f := p.fo
      rw [List.drop_eq_getElem_cons (by omega)] at f
      cases f
    | cons w ws => exact ⟨_, p.next nd (by omega)⟩
theorem paths_at {l : List (Str × Nat)} (nd : (l.map (·.1)).Nodup) {zs : List Str} (fo : Fo l 1 zs) {i : Nat} (hi : i < zs.length) : (paths l zs 0 [[]])[i]? = some (abv l zs i) ∧
    ∀ k, (abv l zs i).getLast? = some k → k < i ∧ abv l zs i = abv l zs k ++ [k] ∧ ∃ hk : k < zs.length, i ∈ kidsFrom l zs (k + 1) (ar l zs[k]) := by
  have key : ∀ i, i < zs.length → (paths l zs 0 [[]])[i]? = some (abv l zs i) ∧ ∀ k, (abv l zs i).getLast? = some k → k < i ∧ (paths l zs 0 [[]])[k]? = some (abv l zs i).dropLast ∧ ∃ hk : k < zs.length, i ∈ kidsFrom l zs (k + 1) (ar l zs[k]) := fun i hi => by
    obtain ⟨ws, p⟩ := PIn.all nd fo i (by omega)
    cases ws with
    | nil =>
      have f := p.fo
      rw [List.drop_eq_getElem_cons hi] at f
      cases f
    | cons w ws =>
      have o := p.op 0 w rfl
      rw [past_zero] at o
      have ew : w = abv l zs i := o
      subst ew
      refine ⟨?_, fun k hk => ?_⟩
      · obtain ⟨done, ld, e⟩ := p.tl
        rw [e, List.getElem?_append_right (by omega), ld, Nat.sub_self, List.drop_eq_getElem_cons hi]
        rfl
      · obtain ⟨k1, ⟨k2, c, c1, c2⟩, k3⟩ := p.kid 0 _ k rfl hk
        rw [past_zero] at c2
        refine ⟨k1, k3, k2, ?_⟩
        rw [c2]
        exact mem_kidsFrom c1
  refine ⟨(key i hi).1, fun k hk => ?_⟩
  obtain ⟨k1, k2, k3, k4⟩ := (key i hi).2 k hk
  refine ⟨k1, ?_, k3, k4⟩
  rw [(key k k3).1] at k2
  rw [Option.some.inj k2]
  obtain ⟨ys, e⟩ := List.getLast?_eq_some_iff.mp hk
  rw [e, List.dropLast_concat]
theorem paths_len {l : List (Str × Nat)} (nd : (l.map (·.1)).Nodup) {zs : List Str} (fo : Fo l 1 zs) : paths l zs 0 [[]] = (List.range zs.length).map (abv l zs) := by
  refine List.ext_getElem? fun i => ?_
  by_cases hi : i < zs.length
  · rw [(paths_at nd fo hi).1, List.getElem?_map, List.getElem?_range hi]
    rfl
  · obtain ⟨ws, p⟩ := PIn.all nd fo zs.length (Nat.le_refl _)
    obtain ⟨done, ld, e⟩ := p.tl
    rw [List.drop_length] at e
    have e2 : paths l [] zs.length ws = [] := rfl
    rw [e2, List.append_nil] at e
    rw [List.getElem?_eq_none (by rw [e]; omega), List.getElem?_eq_none (by simp; omega)]
end Pr
namespace Pr
open PySem PySem.Spec PyProof.Rows L2 Gd
/-! ### above, levels -/
def mx : List Nat → Nat
  | [] => 0
  | x :: xs => Nat.max x (mx xs)
theorem mx_le : ∀ {xs : List Nat} {y : Nat}, y ∈ xs → y ≤ mx xs
  | x :: xs, y, h => by
    rcases List.mem_cons.mp h with rfl | h
    · exact Nat.le_max_left _ _
    · exact Nat.le_trans (mx_le h) (Nat.le_max_right _ _)
theorem mx_mem : ∀ {xs : List Nat}, xs ≠ [] → mx xs ∈ xs
  | [x], _ => by
    show Nat.max x 0 ∈ [x]
    rw [show Nat.max x 0 = x from Nat.max_eq_left (Nat.zero_le _)]
    exact List.mem_cons_self
  | x :: y :: xs, _ => by
    have ih := mx_mem (xs := y :: xs) (by simp)
    show Nat.max x (mx (y :: xs)) ∈ _
    rcases Nat.le_total x (mx (y :: xs)) with h | h
    · rw [show Nat.max x (mx (y :: xs)) = mx (y :: xs) from Nat.max_eq_right h]
      exact List.mem_cons_of_mem _ ih
    · rw [show Nat.max x (mx (y :: xs)) = x from Nat.max_eq_left h]
      exact List.mem_cons_self
theorem mx_of {xs : List Nat} {m : Int} (hm : m ∈ xs.map fun (x : Nat) => (x : Int)) (hl : ∀ y, y ∈ (xs.map fun (x : Nat) => (x : Int)) → y ≤ m) : m = (mx xs : Nat) := by
  obtain ⟨k, hk, rfl⟩ := List.mem_map.mp hm
  have h1 := mx_le hk
  have h2 := hl _ (List.mem_map_of_mem (mx_mem (List.ne_nil_of_mem hk)))
  omega
/-- the levels of a tree -/
def lvl (l : List (Str × Nat)) (zs : List Str) : Nat := mx (dpt l zs [1])
theorem lvl_abv {l : List (Str × Nat)} (nd : (l.map (·.1)).Nodup) {zs : List Str} (fo : Fo l 1 zs) : dpt l zs [1] = (List.range zs.length).map fun i => (abv l zs i).length + 1 := by
  have h := paths_dpt (l := l) zs 0 [[]]
  rw [paths_len nd fo, List.map_map] at h
  exact h.symm
def spAbove (C : Addr) : Sp := fun vs H Q _ => ∃ (o t : Addr) (l : List (Str × Nat)) (zs : List Str) (p : Nat), vs = [.ref o, .ref t, .int (p : Int)] ∧ TreeAt H C o t l zs ∧ p < zs.length ∧
  ∀ q H', Same H H' → H' q = some (.tup ((abv l zs p).map intV)) → Q (.ref q) H'
def spLvl (C : Addr) : Sp := fun vs H Q _ => ∃ (o t : Addr) (l : List (Str × Nat)) (zs : List Str), vs = [.ref o, .ref t] ∧ TreeAt H C o t l zs ∧ ∀ H', Same H H' → Q (.int (lvl l zs : Nat)) H'
theorem parents_eq {l : List (Str × Nat)} (nd : (l.map (·.1)).Nodup) {zs : List Str} (fo : Fo l 1 zs) : (parL l zs 0 [none]).map optV = (List.range zs.length).map fun i => optV (abv l zs i).getLast? := by
  have h := parL_paths (l := l) zs 0 [[]]
  rw [paths_len nd fo, List.map_map] at h
  have h' : parL l zs 0 [none] = _ := h
  rw [h', List.map_map]
  rfl
section
variable {P : Program} {w : World} {K : PySem.W.Frag} {mg : Str → Option Value} {base : Heap} {C fW fT fC fP fE fI fN fQ : Addr} {dW dT dC dP dE dI dN dQ : FuncData} {tk : Tok}
theorem scAbove : FnScope ["self", "tree", "place", "parents", "way", "at"] ["self", "tree", "place"] (defScope mAbove) := ⟨rfl, rfl, rfl, by decide +kernel, rfl, by decide +kernel, by decide +kernel⟩
theorem ok_above {f : Addr} {fd : FuncData} (F : Fun K "above" "Operators.above" mAbove f fd) (M : Ms K mg C fW fT fC fP fE fI fN dW dT dC dP dE dI dN tk) (T : Free mg)
    (FQ : Fun K "_parents" "Operators._parents" mParents fQ dQ) (bQ : Binds K dQ ["self", "tree"] []) (mQ : Meth K C "_parents" fQ) : FnOk P w K mg base CX0 5 f fd ["self", "tree", "place"] (spAbove C) := by
  have GP : FnOk P w K mg base CX0 4 fP dP ["self", "tree", "place"] (spChPlace C) := ok_chPlace M T
  have GQ : FnOk P w K mg base CX0 1 fQ dQ ["self", "tree"] (spParents C) := ok_parents FQ M T
  refine F.ok scAbove (fun vs H Q E h => ?_) (fun cdv A outer s H vs Q E hr h => ?_)
  · obtain ⟨o, t, l, zs, p, rfl, _⟩ := h
    rfl
  · obtain ⟨o, t, l, zs, p, rfl, tr, hp, q⟩ := h
    have r1 : Room 1 _ := hr.mono (by decide)
    refine ⟨_, pss_cons (ps_expr (pe_meth (pv 0) M.cf.cls M.mP GP (hr.mono (by decide)) M.bP .nil pass0 (pa_cons (pv 1) (pa_cons (pv 2) pa_nil))))
      (pss_cons (ps_set (i := 3) scAbove.nd rfl (.inl rfl) (pe_meth (pv 0) M.cf.cls mQ GQ r1 bQ .nil pass0 (pa_cons (pv 1) pa_nil)))
      (pss_cons (ps_set (i := 4) scAbove.nd rfl (.inl rfl) (pe_lst pa_nil))
      (pss_cons (ps_set (i := 5) scAbove.nd rfl (.inl rfl) (pe_ix ix_list (pv 3) (pv 2) (fun _ _ => rfl)))
      (pss_cons (ps_while PassesOwn.never (pt_cmp (pc_notN (pv 5)))
        (pss_cons (ps_expr (pe_bm PySem.F.plainAttrs_list PySem.F.slot_list_append PySem.F.type_list_append mt_append (pv 4) (pa_cons (pv 5) pa_nil)))
        (pss_one (ps_set (i := 5) scAbove.nd rfl (.inl rfl) (pe_ix ix_list (pv 3) (pv 5) (fun _ _ => rfl))))))
      (pss_one (ps_ret (pe_callTy call_tuple_of (by rfl) T.tuple (by decide +kernel) (pa_cons (pe_revL (pv 4)) pa_nil)))))))), ?_⟩
    obtain ⟨dx, tn, ta, tl, ho, hn, ha⟩ := tr.ops.ex
    have few := tr.few
    refine ⟨_, rfl, o, dx, _, rfl, ho, rfl, _, rfl, _, rfl, o, t, l, zs, p, rfl, tr, hp, ?_⟩
    refine ⟨_, rfl, o, dx, _, rfl, ho, rfl, _, rfl, o, t, l, zs, rfl, tr, fun PL H1 s1 nPL hPL => ?_⟩
    rw [parents_eq tr.nd tr.fo] at hPL
    have hxs : ∀ k, k < zs.length → atI ((List.range zs.length).map fun i => optV (abv l zs i).getLast?) (k : Int) = some (optV (abv l zs k).getLast?) := fun k hk => atI_nat (by rw [List.getElem?_map, List.getElem?_range hk]; rfl)
    refine ⟨by show 0 ≤ sizeLine; decide, fun W nW => ?_⟩
    have PW : PL ≠ W := ne_of_none hPL nW
    have nHW : H W = none := s1.free nW
    have s2 := s1.trans (Same.new nW (o := .lst []))
    have hPL2 := (Same.new nW (o := .lst [])) _ _ hPL
    refine ⟨_, rfl, _, rfl, PL, _, _, _, rfl, rfl, SqL.of hPL2, hxs p hp, ?_⟩
    refine while_by (fun σ H' => ∃ ww done : List Nat, σ = [some (.ref o), some (.ref t), some (.int (p : Int)), some (.ref PL), some (.ref W), some (optV ww.getLast?)] ∧ Same H H' ∧ H' PL = some (.lst ((List.range zs.length).map fun i => optV (abv l zs i).getLast?)) ∧ H' W = some (.lst (done.reverse.map intV)) ∧
        abv l zs p = ww ++ done ∧ done.length ≤ p ∧ (ww = [] ∨ ∃ k, k < zs.length ∧ ww = abv l zs k ++ [k]))
      (fun σ _ => match σ with | [_, _, _, _, _, some (.int j)] => j.toNat + 1 | _ => 0) ⟨abv l zs p, [], rfl, s2, hPL2, upd_same, (List.append_nil _).symm, Nat.zero_le _, ?_⟩ ?_ (fun σ H Q Q' k h => by
        obtain ⟨v, hv, c, ec, q⟩ := h
        exact ⟨v, hv, c, ec, k _ _ q⟩)
    · cases e : (abv l zs p).getLast? with
      | none => exact .inl (List.getLast?_eq_none_iff.mp e)
      | some k =>
        obtain ⟨_, k2, k3, _⟩ := (paths_at tr.nd tr.fo hp).2 k e
        exact .inr ⟨k, k3, k2⟩
    · rintro σ H' ⟨ww, done, rfl, sm, hP, hW, ea, dl, alt⟩
      rcases alt with rfl | ⟨k, hk, rfl⟩
      · refine ⟨_, rfl, false, rfl, if_false_of rfl ?_⟩
        refine ⟨_, rfl, W, _, rfl, SqL.of hW, fun R nR => ⟨R, _, rfl, .inl ⟨SqL.of upd_same, fun t2 nt2 => q t2 _ ((sm.trans (Same.new nR)).trans (Same.new nt2)) ?_⟩⟩⟩
        rw [upd_same, ea, ← List.map_reverse, List.reverse_reverse]
        rfl
      · have al : (abv l zs p).length ≤ p := by
          have := List.length_filter_le (fun a => decide (p < stopAt l zs a)) (List.range p)
          rw [List.length_range] at this
          exact this
        have dl2 : done.length + 1 ≤ p := by
          rw [ea] at al
          simp only [List.length_append, List.length_cons, List.length_nil] at al
          omega
        rw [List.getLast?_concat]
        refine ⟨_, rfl, true, rfl, if_true_of rfl ?_⟩
        refine ⟨_, rfl, .inl ⟨rfl, _, SqL.of hW⟩, _, rfl, W, _, _, rfl, rfl, hW, by rw [List.length_map, List.length_reverse, sizeLine_eq]; omega, ?_⟩
        have hP2 : (upd H' W (.lst (done.reverse.map intV ++ [intV k]))) PL = some (.lst ((List.range zs.length).map fun i => optV (abv l zs i).getLast?)) := by
          rw [upd_ne PW]
          exact hP
        refine ⟨_, rfl, _, rfl, PL, _, _, _, rfl, rfl, SqL.of hP2, hxs k hk, ⟨abv l zs k, k :: done, rfl, fun b u e => ?_, hP2, ?_, ?_, by rw [List.length_cons]; omega, ?_⟩, ?_⟩
        · rw [upd_ne (ne_of_none e nHW)]
          exact sm b u e
        · rw [upd_same, List.reverse_cons, List.map_append]
          rfl
        · rw [ea, List.append_assoc]
          rfl
        · cases e : (abv l zs k).getLast? with
          | none => exact .inl (List.getLast?_eq_none_iff.mp e)
          | some j =>
            obtain ⟨_, k2, k3, _⟩ := (paths_at tr.nd tr.fo hk).2 j e
            exact .inr ⟨j, k3, k2⟩
        · cases e : (abv l zs k).getLast? with
          | none => exact Nat.succ_pos _
          | some j =>
            have := ((paths_at tr.nd tr.fo hk).2 j e).1
            show ((j : Int)).toNat + 1 < ((k : Int)).toNat + 1
            omega
theorem scLvl : FnScope ["self", "tree", "levels", "parent"] ["self", "tree"] (defScope mLevels) := ⟨rfl, rfl, rfl, by decide +kernel, rfl, by decide +kernel, by decide +kernel⟩
theorem ok_lvl {f : Addr} {fd : FuncData} (F : Fun K "levels" "Operators.levels" mLevels f fd) (M : Ms K mg C fW fT fC fP fE fI fN dW dT dC dP dE dI dN tk) (T : Free mg)
    (FQ : Fun K "_parents" "Operators._parents" mParents fQ dQ) (bQ : Binds K dQ ["self", "tree"] []) (mQ : Meth K C "_parents" fQ) : FnOk P w K mg base CX0 4 f fd ["self", "tree"] (spLvl C) := by
  have GC : FnOk P w K mg base CX0 3 fC dC ["self", "tree"] (spChTree C) := ok_chTree M T
  have GQ : FnOk P w K mg base CX0 1 fQ dQ ["self", "tree"] (spParents C) := ok_parents FQ M T
  refine F.ok scLvl (fun vs H Q E h => ?_) (fun cdv A outer s H vs Q E hr h => ?_)
  · obtain ⟨o, t, l, zs, rfl, _⟩ := h
    rfl
  · obtain ⟨o, t, l, zs, rfl, tr, q⟩ := h
    have r1 : Room 1 _ := hr.mono (by decide)
    refine ⟨_, pss_cons (ps_expr (pe_meth (pv 0) M.cf.cls M.mC GC hr M.bC .nil pass0 (pa_cons (pv 1) pa_nil)))
      (pss_cons (ps_set (i := 2) scLvl.nd rfl (.inl rfl) (pe_lst pa_nil))
      (pss_cons (ps_for PassesOwn.never rfl (pi_list (pe_meth (pv 0) M.cf.cls mQ GQ r1 bQ .nil pass0 (pa_cons (pv 1) pa_nil))) (pg_name (i := 3) scLvl.nd rfl (.inl rfl))
        (pss_one (ps_expr (pe_bm PySem.F.plainAttrs_list PySem.F.slot_list_append PySem.F.type_list_append mt_append (pv 2) (pa_cons (pe_ifExp (pt_cmp (pc_isN (pv 3))) pe_int (pe_op op_add (pe_ix ix_list (pv 2) (pv 3) (fun _ _ => rfl)) pe_int)) pa_nil)))))
      (pss_one (ps_ret (pe_callB (cr_max rfl) (by rfl) T.max (by decide +kernel) (pa_cons (pv 2) pa_nil)))))), ?_⟩
    obtain ⟨dx, tn, ta, tl, ho, hn, ha⟩ := tr.ops.ex
    have few := tr.few
    have pos : 0 < zs.length := tr.fo.len
    refine ⟨_, rfl, o, dx, _, rfl, ho, rfl, _, rfl, o, t, l, zs, rfl, tr, by show 0 ≤ sizeLine; decide, fun L nL => ?_⟩
    have s0 := Same.new nL (o := .lst [])
    refine ⟨_, rfl, o, dx, _, rfl, s0 _ _ ho, rfl, _, rfl, o, t, l, zs, rfl, tr.same s0, fun PL H1 s1 nPL hPL => ?_⟩
    rw [parents_eq tr.nd tr.fo] at hPL
    have PL' : PL ≠ L := fun e => by
      rw [e, upd_same] at nPL
      cases nPL
    have hL1 := s1 _ _ (upd_same (H := H) (a := L) (o := .lst []))
    refine ⟨PL, rfl, ⟨_, SqL.of hPL⟩, ?_⟩
    refine for_list (K := K) (a := PL) (xs := (List.range zs.length).map fun i => optV (abv l zs i).getLast?) (fun i σ H' => ∃ v3 : Option V, σ = [some (.ref o), some (.ref t), some (.ref L), v3] ∧ Same H H' ∧ H' PL = some (.lst ((List.range zs.length).map fun i => optV (abv l zs i).getLast?)) ∧
        H' L = some (.lst ((List.range i).map fun j => intV ((abv l zs j).length + 1)))) ⟨none, rfl, s0.trans s1, hPL, hL1⟩ (fun i σ H' _ ⟨_, _, _, hP, _⟩ => SqL.of hP) ?_ ?_
    · rintro i x σ H' hx ⟨v3, rfl, sm, hP, hL⟩
      have hi : i < zs.length := by
        have := (List.getElem?_eq_some_iff.mp hx).1
        rw [List.length_map, List.length_range] at this
        exact this
      rw [List.getElem?_map, List.getElem?_range hi] at hx
      cases (Option.some.inj hx)
      refine ⟨_, rfl, .inl ⟨rfl, _, SqL.of hL⟩, ?_⟩
      have fin : ∀ v : V, v = intV ((abv l zs i).length + 1) → ∃ v3 : Option V, ([some (V.ref o), some (V.ref t), some (V.ref L), some (optV (abv l zs i).getLast?)] : L2.St) = [some (.ref o), some (.ref t), some (.ref L), v3] ∧ Same H (upd H' L (.lst (((List.range i).map fun j => intV ((abv l zs j).length + 1)) ++ [v]))) ∧ (upd H' L (.lst (((List.range i).map fun j => intV ((abv l zs j).length + 1)) ++ [v]))) PL = some (.lst ((List.range zs.length).map fun i => optV (abv l zs i).getLast?)) ∧
        (upd H' L (.lst (((List.range i).map fun j => intV ((abv l zs j).length + 1)) ++ [v]))) L = some (.lst ((List.range (i + 1)).map fun j => intV ((abv l zs j).length + 1))) := fun v ev => by
        refine ⟨_, rfl, fun b u e => ?_, ?_, ?_⟩
        · rw [upd_ne (ne_of_none e nL)]
          exact sm b u e
        · rw [upd_ne PL']
          exact hP
        · rw [upd_same, List.range_succ, List.map_append, ev]
          rfl
      cases e : (abv l zs i).getLast? with
      | none =>
        have e0 : abv l zs i = [] := List.getLast?_eq_none_iff.mp e
        refine ⟨_, rfl, true, congrArg V.bl (decide_eq_true (by show optV (abv l zs i).getLast? = V.non; rw [e]; rfl)), if_true_of rfl ?_⟩
        refine ⟨L, _, _, rfl, rfl, hL, by rw [List.length_map, List.length_range, sizeLine_eq]; omega, fin _ (by rw [e0]; rfl)⟩
      | some k =>
        obtain ⟨k1, k2, k3, _⟩ := (paths_at tr.nd tr.fo hi).2 k e
        have hx : atI ((List.range i).map fun j => intV ((abv l zs j).length + 1)) (k : Int) = some (intV ((abv l zs k).length + 1)) := atI_nat (by rw [List.getElem?_map, List.getElem?_range k1]; rfl)
        refine ⟨_, rfl, false, congrArg V.bl (decide_eq_false (by show ¬ optV (abv l zs i).getLast? = V.non; rw [e]; intro z; cases z)), if_false_of rfl ?_⟩
        refine ⟨_, rfl, _, rfl, L, _, (k : Int), _, rfl, (show optV (abv l zs i).getLast? = V.int (k : Int) by rw [e]; rfl), SqL.of hL, hx, _, _, rfl, rfl, L, _, _, rfl, rfl, hL, by rw [List.length_map, List.length_range, sizeLine_eq]; omega, fin _ ?_⟩
        rw [k2, List.length_append]
        show V.int _ = V.int _
        congr 1
    · rintro σ H' ⟨v3, rfl, sm, hP, hL⟩
      rw [List.length_map, List.length_range] at hL
      have eL : ((List.range zs.length).map fun j => intV ((abv l zs j).length + 1)) = ((dpt l zs [1]).map fun (x : Nat) => (x : Int)).map V.int := by
        rw [lvl_abv tr.nd tr.fo, List.map_map, List.map_map]
        rfl
      rw [eL] at hL
      refine ⟨_, rfl, L, _, rfl, SqL.of hL, ?_, fun m hm hl => ?_⟩
      · rw [List.length_map, lvl_abv tr.nd tr.fo, List.length_map, List.length_range]
        exact pos
      · rw [mx_of hm hl]
        exact q H' sm
end
end Pr
namespace Pr
open PySem PySem.Spec PyProof.Rows L2 Gd
/-! ### subtrees: their words, their levels -/
/-- the subtree at p -/
def sub (l : List (Str × Nat)) (zs : List Str) (p : Nat) : List Str := (zs.drop p).take (ext l (zs.drop p) 1)
/-- n trees one behind the other, each by itself -/
def trees (l : List (Str × Nat)) : List Str → Nat → List (List Str)
  | _, 0 => []
  | xs, n + 1 => xs.take (ext l xs 1) :: trees l (xs.drop (ext l xs 1)) n
theorem kids_trees {l : List (Str × Nat)} {zs : List Str} : ∀ {n c : Nat}, (kidsFrom l zs c n).map (sub l zs) = trees l (zs.drop c) n
  | 0, _ => rfl
  | n + 1, c => by
    show sub l zs c :: (kidsFrom l zs (c + ext l (zs.drop c) 1) n).map (sub l zs) = sub l zs c :: trees l ((zs.drop c).drop (ext l (zs.drop c) 1)) n
    rw [kids_trees, List.drop_drop]
theorem trees_flat {l : List (Str × Nat)} : ∀ {n : Nat} {xs : List Str}, (trees l xs n).flatten = xs.take (ext l xs n)
  | 0, xs => by
    rw [ext_zero, List.take_zero]
    rfl
  | n + 1, xs => by
    show xs.take (ext l xs 1) ++ (trees l (xs.drop (ext l xs 1)) n).flatten = _
    rw [trees_flat, show n + 1 = 1 + n by omega, ext_add xs 1 n, List.take_add]
theorem Fo.take {l : List (Str × Nat)} (nd : (l.map (·.1)).Nodup) : ∀ {zs : List Str} {n m : Nat}, Fo l (n + m) zs → Fo l n (zs.take (ext l zs n))
  | zs, 0, m, h => by
    rw [ext_zero, List.take_zero]
    exact .nil
  | [], n + 1, m, h => by
    have e : n + 1 + m = (n + m) + 1 := by omega
    rw [e] at h
    cases h
  | z :: zs, n + 1, m, h => by
    have e : n + 1 + m = (n + m) + 1 := by omega
    rw [e] at h
    cases h with
    | cons mm h =>
      rename_i a
      have e2 : n + m + a = (n + a) + m := by omega
      rw [e2] at h
      have e3 : ext l (z :: zs) (n + 1) = ext l zs (n + a) + 1 := by
        show 1 + ext l zs (n + ar l z) = _
        rw [ar_eq nd mm, Nat.add_comm]
      rw [e3, List.take_succ_cons]
      exact .cons mm (Fo.take nd h)
theorem sub_fo {l : List (Str × Nat)} (nd : (l.map (·.1)).Nodup) {zs : List Str} (fo : Fo l 1 zs) {p : Nat} (hp : p < zs.length) : Fo l 1 (sub l zs p) := by
  obtain ⟨r, f⟩ := Fo.drop fo hp
  have f' : Fo l (1 + r) (zs.drop p) := by
    rw [Nat.add_comm]
    exact f
  exact Fo.take nd f'
theorem sub_cons {l : List (Str × Nat)} {zs : List Str} {p : Nat} (hp : p < zs.length) : sub l zs p = zs[p] :: ((kidsFrom l zs (p + 1) (ar l zs[p])).map (sub l zs)).flatten := by
  rw [kids_trees, trees_flat]
  unfold sub
  rw [List.drop_eq_getElem_cons hp]
  show (zs[p] :: zs.drop (p + 1)).take (1 + ext l (zs.drop (p + 1)) (0 + ar l zs[p])) = _
  rw [Nat.zero_add, Nat.add_comm 1, List.take_succ_cons]
theorem dpt_app {l : List (Str × Nat)} (nd : (l.map (·.1)).Nodup) : ∀ {n : Nat} {t : List Str}, Fo l n t → ∀ (ds : List Nat), ds.length = n → ∀ (xs : List Str) (es : List Nat), dpt l (t ++ xs) (ds ++ es) = dpt l t ds ++ dpt l xs es
  | _, _, .nil, ds, h, xs, es => by
    rw [List.length_eq_zero_iff.mp h]
    rfl
  | _, _, .cons (z := z) (a := a) (n := n) (zs := zs) m h, ds, hl, xs, es => by
    cases ds with
    | nil => cases hl
    | cons d ds =>
      show d :: dpt l (zs ++ xs) (List.replicate (ar l z) (d + 1) ++ (ds ++ es)) = d :: (dpt l zs (List.replicate (ar l z) (d + 1) ++ ds) ++ dpt l xs es)
      rw [← List.append_assoc, dpt_app nd h]
      rw [List.length_append, List.length_replicate, ar_eq nd m]
      have : ds.length = n := Nat.succ.inj hl
      omega
theorem dpt_shift {l : List (Str × Nat)} : ∀ (t : List Str) (ds : List Nat), dpt l t (ds.map (· + 1)) = (dpt l t ds).map (· + 1)
  | [], _ => by simp [dpt]
  | _ :: _, [] => rfl
  | z :: zs, d :: ds => by
    show (d + 1) :: dpt l zs (List.replicate (ar l z) (d + 1 + 1) ++ ds.map (· + 1)) = (d + 1) :: (dpt l zs (List.replicate (ar l z) (d + 1) ++ ds)).map (· + 1)
    rw [← dpt_shift zs, List.map_append, List.map_replicate]
theorem dpt_trees {l : List (Str × Nat)} (nd : (l.map (·.1)).Nodup) {d : Nat} : ∀ {n m : Nat} {xs : List Str}, Fo l (n + m) xs → dpt l (xs.take (ext l xs n)) (List.replicate n d) = ((trees l xs n).map fun t => dpt l t [d]).flatten
  | 0, m, xs, h => by
    rw [ext_zero, List.take_zero]
    rfl
  | n + 1, m, xs, h => by
    have h1 : Fo l (1 + (n + m)) xs := by
      rw [show 1 + (n + m) = n + 1 + m by omega]
      exact h
    have f1 := Fo.take nd h1
    have f2 := (ext_fo nd h1).1
    show dpt l (xs.take (ext l xs (n + 1))) (d :: List.replicate n d) = dpt l (xs.take (ext l xs 1)) [d] ++ ((trees l (xs.drop (ext l xs 1)) n).map fun t => dpt l t [d]).flatten
    have e : ext l xs (n + 1) = ext l xs 1 + ext l (xs.drop (ext l xs 1)) n := by
      rw [show n + 1 = 1 + n by omega]
      exact ext_add xs 1 n
    rw [← dpt_trees nd f2, e, List.take_add]
    exact dpt_app nd f1 [d] rfl _ _
theorem mx_append {xs ys : List Nat} : mx (xs ++ ys) = Nat.max (mx xs) (mx ys) := by
  induction xs with
  | nil => exact (Nat.max_eq_right (Nat.zero_le _)).symm
  | cons x xs ih =>
    show Nat.max x (mx (xs ++ ys)) = Nat.max (Nat.max x (mx xs)) (mx ys)
    rw [ih]
    exact (Nat.max_assoc x (mx xs) (mx ys)).symm
theorem mx_flat : ∀ {xss : List (List Nat)}, mx xss.flatten = mx (xss.map mx)
  | [] => rfl
  | xs :: xss => by
    show mx (xs ++ xss.flatten) = Nat.max (mx xs) (mx (xss.map mx))
    rw [mx_append, mx_flat]
theorem mx_succ : ∀ {xs : List Nat}, mx (1 :: xs.map (· + 1)) = 1 + mx xs
  | [] => rfl
  | x :: xs => by
    have ih := mx_succ (xs := xs)
    have e1 : mx (1 :: xs.map (· + 1)) = Nat.max 1 (mx (xs.map (· + 1))) := rfl
    have e2 : mx (1 :: (x :: xs).map (· + 1)) = Nat.max 1 (Nat.max (x + 1) (mx (xs.map (· + 1)))) := rfl
    have e3 : mx (x :: xs) = Nat.max x (mx xs) := rfl
    rw [e1] at ih
    rw [e2, e3]
    have a1 : Nat.max 1 (mx (xs.map (· + 1))) = max 1 (mx (xs.map (· + 1))) := rfl
    have a2 : Nat.max 1 (Nat.max (x + 1) (mx (xs.map (· + 1)))) = max 1 (max (x + 1) (mx (xs.map (· + 1)))) := rfl
    have a3 : Nat.max x (mx xs) = max x (mx xs) := rfl
    rw [a1] at ih
    rw [a2, a3]
    omega
theorem lvl_sub {l : List (Str × Nat)} (nd : (l.map (·.1)).Nodup) {zs : List Str} (fo : Fo l 1 zs) {p : Nat} (hp : p < zs.length) :
    lvl l (sub l zs p) = 1 + mx ((kidsFrom l zs (p + 1) (ar l zs[p])).map fun c => lvl l (sub l zs c)) := by
  obtain ⟨r, f⟩ := Fo.drop fo hp
  have hd : zs.drop p = zs[p] :: zs.drop (p + 1) := List.drop_eq_getElem_cons hp
  rw [hd] at f
  obtain ⟨a, m, f2⟩ : ∃ a, (zs[p], a) ∈ l ∧ Fo l (r + a) (zs.drop (p + 1)) := by
    cases f with
    | cons m h => exact ⟨_, m, h⟩
  have arz := ar_eq nd m
  have f3 : Fo l (a + r) (zs.drop (p + 1)) := by
    rw [Nat.add_comm]
    exact f2
  unfold lvl
  rw [sub_cons hp, arz, kids_trees, trees_flat]
  show mx (1 :: dpt l ((zs.drop (p + 1)).take (ext l (zs.drop (p + 1)) a)) (List.replicate (ar l zs[p]) 2 ++ [])) = _
  rw [List.append_nil, arz]
  have e : List.replicate a 2 = (List.replicate a 1).map (· + 1) := by rw [List.map_replicate]
  rw [e, dpt_shift, mx_succ, dpt_trees nd f3, mx_flat, List.map_map, ← kids_trees, List.map_map]
  rfl
/-- what hangs on the arities alone -/
theorem ar_perm {l l' : List (Str × Nat)} (nd : (l.map (·.1)).Nodup) (pm : l'.Perm l) (z : Str) : ar l' z = ar l z := by
  have nd' : (l'.map (·.1)).Nodup := (pm.map _).nodup_iff.mpr nd
  by_cases h : z ∈ l.map (·.1)
  · obtain ⟨⟨x, a⟩, hm, e⟩ := List.mem_map.mp h
    cases e
    rw [ar_eq nd hm, ar_eq nd' (pm.mem_iff.mpr hm)]
  · have h' : z ∉ l'.map (·.1) := fun m => h ((pm.map _).mem_iff.mp m)
    unfold ar
    rw [val_none h, val_none h']
theorem Fo.perm {l l' : List (Str × Nat)} (pm : l'.Perm l) : ∀ {n : Nat} {zs : List Str}, Fo l n zs → Fo l' n zs
  | _, _, .nil => .nil
  | _, _, .cons m h => .cons (pm.mem_iff.mpr m) (Fo.perm pm h)
theorem ext_perm {l l' : List (Str × Nat)} (nd : (l.map (·.1)).Nodup) (pm : l'.Perm l) : ∀ (zs : List Str) (n : Nat), ext l' zs n = ext l zs n
  | zs, 0 => by rw [ext_zero, ext_zero]
  | [], n + 1 => rfl
  | z :: zs, n + 1 => by
    show 1 + ext l' zs (n + ar l' z) = 1 + ext l zs (n + ar l z)
    rw [ar_perm nd pm, ext_perm nd pm zs]
theorem stop_perm {l l' : List (Str × Nat)} (nd : (l.map (·.1)).Nodup) (pm : l'.Perm l) (zs : List Str) (j : Nat) : stopAt l' zs j = stopAt l zs j := by
  unfold stopAt past
  rw [ext_perm nd pm]
end Pr
namespace Pr
open PySem PySem.Spec PyProof.Rows L2 Gd
/-! ### rows of names and of numbers, told apart -/
def strD (z : Str) : PyData := .str z
def natD (n : Nat) : PyData := .int (n : Int)
theorem dp_strs {K : PySem.W.Frag} {H : Hp} : ∀ zs : List Str, DpAll K H (zs.map V.str) (zs.map strD)
  | [] => .nil
  | z :: zs => .cons (.str z) (dp_strs zs)
theorem dp_nats {K : PySem.W.Frag} {H : Hp} : ∀ ns : List Nat, DpAll K H (ns.map intV) (ns.map natD)
  | [] => .nil
  | n :: ns => .cons (.int (n : Int)) (dp_nats ns)
theorem low_depth : ∀ {ds : List PyData}, (∀ d ∈ ds, d.depth = 0) → PyData.depthAll ds = 0
  | [], _ => rfl
  | d :: ds, h => by
    simp only [PyData.depthAll]
    rw [h d List.mem_cons_self, low_depth fun x m => h x (List.mem_cons_of_mem _ m)]
    rfl
theorem lay_all : ∀ {ds : List PyData}, (∀ d ∈ ds, d.canLay0 = true) → PyData.canLayAll0 ds = true
  | [], _ => rfl
  | d :: ds, h => by
    simp only [PyData.canLayAll0]
    rw [h d List.mem_cons_self, lay_all fun x m => h x (List.mem_cons_of_mem _ m)]
    rfl
theorem shaped_row {ds : List PyData} (h : ∀ d ∈ ds, d.depth = 0 ∧ d.canLay0 = true) : SeqAt.shaped (.tuple ds) = true := by
  have e : PyData.depth (.tuple ds) = PyData.depthAll ds + 1 := by simp only [PyData.depth]
  have e2 : PyData.canLay0 (.tuple ds) = PyData.canLayAll0 ds := by simp only [PyData.canLay0]
  unfold SeqAt.shaped
  rw [e, e2, low_depth fun d m => (h d m).1, lay_all fun d m => (h d m).2]
  rfl
theorem shaped_strs {zs : List Str} (h : ∀ z ∈ zs, PyData.strOk z = true) : SeqAt.shaped (.tuple (zs.map strD)) = true := shaped_row fun d m => by
  obtain ⟨z, hz, rfl⟩ := List.mem_map.mp m
  exact ⟨by unfold strD; simp only [PyData.depth], by unfold strD; simp only [PyData.canLay0]; exact h z hz⟩
theorem shaped_nats {ns : List Nat} : SeqAt.shaped (.tuple (ns.map natD)) = true := shaped_row fun d m => by
  obtain ⟨z, hz, rfl⟩ := List.mem_map.mp m
  exact ⟨by unfold natD; simp only [PyData.depth], by unfold natD; simp only [PyData.canLay0]⟩
theorem neT {K : PySem.W.Frag} {H : Hp} {x y : V} {Q : VK} {ds : List PyData} (hx : Dp K H x (.tuple ds)) (hy : Dp K H y (.tuple ds)) (hs : SeqAt.shaped (.tuple ds) = true) (q : Q (.bl false) H) : rNeD K x y H Q :=
  ⟨_, _, hx, hy, hs, hs, by rw [SeqAt.eqv_refl _ (SeqAt.canLay_of_shaped hs)]; exact q⟩
theorem eqT {K : PySem.W.Frag} {H : Hp} {x y : V} {Q : VK} {ds : List PyData} (hx : Dp K H x (.tuple ds)) (hy : Dp K H y (.tuple ds)) (hs : SeqAt.shaped (.tuple ds) = true) (q : Q (.bl true) H) : rEqD K x y H Q :=
  ⟨_, _, hx, hy, hs, hs, by rw [SeqAt.eqv_refl _ (SeqAt.canLay_of_shaped hs)]; exact q⟩
theorem neStrs {K : PySem.W.Frag} {H : Hp} {a b : Addr} {Q : VK} {zs : List Str} (ha : H a = some (.tup (zs.map V.str))) (hb : H b = some (.tup (zs.map V.str))) (hz : ∀ z ∈ zs, PyData.strOk z = true) (q : Q (.bl false) H) : rNeD K (.ref a) (.ref b) H Q :=
  neT (.tup (SqT.of ha) (dp_strs zs)) (.tup (SqT.of hb) (dp_strs zs)) (shaped_strs hz) q
theorem eqStrs {K : PySem.W.Frag} {H : Hp} {a b : Addr} {Q : VK} {zs : List Str} (ha : H a = some (.tup (zs.map V.str))) (hb : H b = some (.tup (zs.map V.str))) (hz : ∀ z ∈ zs, PyData.strOk z = true) (q : Q (.bl true) H) : rEqD K (.ref a) (.ref b) H Q :=
  eqT (.tup (SqT.of ha) (dp_strs zs)) (.tup (SqT.of hb) (dp_strs zs)) (shaped_strs hz) q
theorem neNats {K : PySem.W.Frag} {H : Hp} {a b : Addr} {Q : VK} {ns : List Nat} (ha : H a = some (.tup (ns.map intV))) (hb : H b = some (.tup (ns.map intV))) (q : Q (.bl false) H) : rNeD K (.ref a) (.ref b) H Q :=
  neT (.tup (SqT.of ha) (dp_nats ns)) (.tup (SqT.of hb) (dp_nats ns)) shaped_nats q
/-- a slice of a row of names -/
theorem cut_strs {zs : List Str} {p e : Nat} (hp : p ≤ zs.length) (he : e ≤ zs.length) (pe : p ≤ e) : cutV (zs.map V.str) (some (p : Int)) (some (e : Int)) = ((zs.drop p).take (e - p)).map V.str ∧ HT.sIx (zs.map V.str).length 0 (some (p : Int)) = p ∧ HT.sIx (zs.map V.str).length (zs.map V.str).length (some (e : Int)) = e := by
  have lz : (zs.map V.str).length = zs.length := List.length_map _
  have i1 : HT.sIx (zs.map V.str).length 0 (some (p : Int)) = p := by
    rw [HT.sIx_nat, lz]
    omega
  have i2 : HT.sIx (zs.map V.str).length (zs.map V.str).length (some (e : Int)) = e := by
    rw [HT.sIx_nat, lz]
    omega
  refine ⟨?_, i1, i2⟩
  unfold cutV
  rw [i1, i2, ← List.map_drop, ← List.map_take]
end Pr
namespace Pr
open PySem PySem.Spec PyProof.Rows L2 Gd
theorem slSub {K : PySem.W.Frag} {H : Hp} {t : Addr} {l : List (Str × Nat)} {zs : List Str} {p : Nat} {Q : VK} (nd : (l.map (·.1)).Nodup) (fo : Fo l 1 zs) (hp : p < zs.length) (ht : H t = some (.tup (zs.map V.str)))
    (q : ∀ a H', Same H H' → H' a = some (.tup ((sub l zs p).map V.str)) → Q (.ref a) H') : rSlA K (.ref t) (some (p : Int)) (some ((stopAt l zs p : Nat) : Int)) H Q := by
  obtain ⟨r, f⟩ := Fo.drop fo hp
  have f' : Fo l (1 + r) (zs.drop p) := by
    rw [Nat.add_comm]
    exact f
  have el := (ext_fo nd f').2
  rw [List.length_drop] at el
  have lz : (zs.map V.str).length = zs.length := List.length_map _
  have es : stopAt l zs p = p + ext l (zs.drop p) 1 := rfl
  obtain ⟨c, i1, i2⟩ := cut_strs (zs := zs) (p := p) (e := stopAt l zs p) (by omega) (by omega) (by omega)
  have c' : cutV (zs.map V.str) (some (p : Int)) (some ((stopAt l zs p : Nat) : Int)) = (sub l zs p).map V.str := by
    rw [c, es, Nat.add_sub_cancel_left]
    rfl
  refine ⟨t, _, rfl, SqT.of ht, fun hw => ?_, fun _ a na => ?_⟩
  · rw [i1, i2, lz] at hw
    have p0 : p = 0 := hw.1
    subst p0
    refine q t H (Same.refl H) ?_
    have e := hw.2
    rw [es, Nat.zero_add] at e
    unfold sub
    rw [e, List.drop_zero, List.take_length]
    exact ht
  · rw [c']
    exact q a _ (Same.new na) upd_same
theorem ix_listK {X : Cx} {K : PySem.W.Frag} (h : X.K = K) : IxR X (rIxL K) := h ▸ ix_list
theorem sub_mem {l : List (Str × Nat)} {zs : List Str} {p : Nat} {z : Str} (h : z ∈ sub l zs p) : z ∈ zs := List.mem_of_mem_drop (List.mem_of_mem_take h)
structure MtF (K : PySem.W.Frag) (C : Addr) (name qual : Str) (st : Stmt) (f : Addr) (fd : FuncData) (ps : List Str) : Prop where
  F : Fun K name qual st f fd
  b : Binds K fd ps []
  m : Meth K C name f
/-- all methods that the law calls -/
structure Mall (K : PySem.W.Frag) (mg : Str → Option Value) (C fW fT fC fP fE fI fN : Addr) (dW dT dC dP dE dI dN : FuncData) (tk : Tok) (e1 e2 e3 e4 e5 e6 : Addr) (d1 d2 d3 d4 d5 d6 : FuncData) : Prop where
  M : Ms K mg C fW fT fC fP fE fI fN dW dT dC dP dE dI dN tk
  e : MtF K C "end" "Operators.end" mEnd e1 d1 ["self", "tree", "place"]
  s : MtF K C "subtree" "Operators.subtree" mSub e2 d2 ["self", "tree", "place"]
  k : MtF K C "children" "Operators.children" mKids e3 d3 ["self", "tree", "place"]
  a : MtF K C "above" "Operators.above" mAbove e4 d4 ["self", "tree", "place"]
  l : MtF K C "levels" "Operators.levels" mLevels e5 d5 ["self", "tree"]
  p : MtF K C "_parents" "Operators._parents" mParents e6 d6 ["self", "tree"]
theorem kids_range {l : List (Str × Nat)} {zs : List Str} : ∀ {n c : Nat}, kidsFrom l zs c n = (List.range n).map fun k => past l zs c k
  | 0, _ => rfl
  | n + 1, c => by
    show c :: kidsFrom l zs (c + ext l (zs.drop c) 1) n = _
    rw [kids_range, List.range_succ_eq_map, List.map_cons, List.map_map, past_zero]
    congr 1
    refine List.map_congr_left fun k _ => ?_
    show past l zs (past l zs c 1) k = past l zs c (k + 1)
    unfold past
    rw [show k + 1 = 1 + k by omega, ext_add (zs.drop c) 1 k, List.drop_drop]
    omega
theorem atI_last {α : Type} {ys : List α} {v : α} : atI (ys ++ [v]) (-1) = some v := by
  unfold atI ixN
  have e : (ys ++ [v]).length = ys.length + 1 := by simp
  have e3 : (-1 + ((ys.length + 1 : Nat) : Int)).toNat = ys.length := by omega
  rw [if_neg (by decide), e, if_pos (by omega)]
  show (ys ++ [v])[(-1 + ((ys.length + 1 : Nat) : Int)).toNat]? = some v
  rw [e3]
  simp
theorem stop_root {l : List (Str × Nat)} (nd : (l.map (·.1)).Nodup) {zs : List Str} (fo : Fo l 1 zs) : stopAt l zs 0 = zs.length := by
  have f : Fo l (1 + 0) zs := fo
  obtain ⟨f1, f2⟩ := ext_fo nd f
  have e : stopAt l zs 0 = ext l zs 1 := by
    unfold stopAt past
    rw [List.drop_zero, Nat.zero_add]
  have h : zs.drop (ext l zs 1) = [] := by
    generalize zs.drop (ext l zs 1) = q at f1
    cases f1
    rfl
  have := List.drop_eq_nil_iff.mp h
  omega
theorem join {H : Hp} {R : Hp → Prop} {A : Prop} (f : (∀ G, Same H G → R G) → A) (g : ∀ G, Same H G → R G) : A := f g
theorem neSelf {v : V} : (!decide (v = v)) = false := by rw [decide_eq_true rfl]; rfl
theorem in_nats {n : Nat} {ns : List Nat} (h : n ∈ ns) : inV (V.int (n : Int)) (ns.map intV) = true := by
  unfold inV
  rw [List.any_eq_true]
  exact ⟨intV n, List.mem_map_of_mem h, by unfold intV; simp [eqV]⟩
theorem flat_nats {ns : List Nat} : (ns.map intV).all flatV = true := by
  rw [List.all_eq_true]
  intro x m
  obtain ⟨n, _, rfl⟩ := List.mem_map.mp m
  rfl
def spPlace (C : Addr) : Sp := fun vs H Q _ => ∃ (o ad t st : Addr) (l l0 : List (Str × Nat)) (zs : List Str) (p : Nat), vs = [.ref o, .ref ad, .ref t, .ref st, .int (p : Int)] ∧ TreeAt H C o t l zs ∧ l0.Perm l ∧ H ad = some (.dK (dkv l0)) ∧ H st = some (.lst ((List.range zs.length).map fun j => intV (stopAt l zs j))) ∧
  (∀ z ∈ zs, PyData.strOk z = true) ∧ p < zs.length ∧ ∀ H', Same H H' → Q (.bl true) H'
section
variable {P : Program} {w : World} {K : PySem.W.Frag} {mg : Str → Option Value} {base : Heap} {C fW fT fC fP fE fI fN : Addr} {dW dT dC dP dE dI dN : FuncData} {tk : Tok} {e1 e2 e3 e4 e5 e6 : Addr} {d1 d2 d3 d4 d5 d6 : FuncData}
theorem scPlace : FnScope ["ops", "arities", "tree", "stops", "place", "end", "above", "children", "at", "turn", "parts", "child"] ["ops", "arities", "tree", "stops", "place"] (defScope sPlace) := ⟨rfl, rfl, rfl, by decide +kernel, rfl, by decide +kernel, by decide +kernel⟩
theorem ok_place {f : Addr} {fd : FuncData} (F : Fun K "_law_place_right" "_law_place_right" sPlace f fd) (A : Mall K mg C fW fT fC fP fE fI fN dW dT dC dP dE dI dN tk e1 e2 e3 e4 e5 e6 d1 d2 d3 d4 d5 d6) (T : Free mg) : FnOk P w K mg base CX0 6 f fd ["ops", "arities", "tree", "stops", "place"] (spPlace C) := by
  have M := A.M
  have GT : FnOk P w K mg base CX0 2 fT dT ["self", "value"] (spTree C) := ok_isTree M T
  have G1 : FnOk P w K mg base CX0 5 e1 d1 ["self", "tree", "place"] (spEnd C) := ok_end A.e.F M T
  have G2 : FnOk P w K mg base CX0 5 e2 d2 ["self", "tree", "place"] (spSub C) := ok_sub A.s.F M T
  have G3 : FnOk P w K mg base CX0 5 e3 d3 ["self", "tree", "place"] (spKids C) := ok_kids A.k.F M T
  have G4 : FnOk P w K mg base CX0 5 e4 d4 ["self", "tree", "place"] (spAbove C) := ok_above A.a.F M T A.p.F A.p.b A.p.m
  refine F.ok scPlace (fun vs H Q E h => ?_) (fun cdv A0 outer s H vs Q E hr h => ?_)
  · obtain ⟨o, ad, t, st, l, l0, zs, p, rfl, _⟩ := h
    rfl
  · obtain ⟨o, ad, t, st, l, l0, zs, p, rfl, tr, pm, had, hst, sok, hp, q⟩ := h
    have hu := hr.units
    have hu1 : ∀ {u : Nat}, u + 64 < cLine → u + 1 < cLine := fun h => by omega
    refine ⟨_, pss_cons (ps_par (i := 5) (j := 6) (by rfl) scPlace.nd rfl rfl (by decide) rfl rfl (pa_cons (pe_ix ix_list (pv 3) (pv 4) (fun _ _ => rfl)) (pa_cons
        (pe_lc (own := [("at", 8)]) (g := gName 8) (by rfl) scPlace.nd (pi_range1 rfl T.range (pa_cons (pv 4) pa_nil)) (blkOk_by (own := [("at", 8)]) (N := ["ops", "arities", "tree", "stops", "place", "end", "above", "children", "at", "turn", "parts", "child"]) (sc := defScope sPlace) (by decide +kernel))
          (fun _ _ _ _ _ => pg_name (i := 8) scPlace.nd rfl (Or.inl rfl)) (fun _ _ _ _ _ => pts_one (pt_cmpR op_gt (pe_ix (ix_listK (K := K) rfl) (pv 3) (pv 8) (fun _ _ => rfl)) (pv 4) (nomark _))) (fun _ _ _ _ _ => pv 8)) pa_nil)) (by rfl))
      (pss_cons (ps_par (i := 7) (j := 8) (by rfl) scPlace.nd rfl rfl (by decide) rfl rfl (pa_cons (pe_lst pa_nil) (pa_cons (pe_op op_add (pv 4) pe_int) pa_nil)) (by rfl))
      (pss_cons (ps_for PassesOwn.never rfl (pi_range1 rfl T.range (pa_cons (pe_dget (hu1 hu) (pv 1) (pe_ix ix_tup (pv 2) (pv 4) (fun _ _ => rfl)) (fun _ _ => rfl)) pa_nil)) (pg_name (i := 9) scPlace.nd rfl (.inl rfl))
        (pss_cons (ps_expr (pe_bm PySem.F.plainAttrs_list PySem.F.slot_list_append PySem.F.type_list_append mt_append (pv 7) (pa_cons (pv 8) pa_nil)))
        (pss_one (ps_set (i := 8) scPlace.nd rfl (.inl rfl) (pe_ix ix_list (pv 3) (pv 8) (fun _ _ => rfl))))))
      (pss_cons (ps_if (PW.pt (pw_or (pt_cmpR op_ne (pe_meth (pv 0) M.cf.cls A.e.m G1 (hr.mono (by decide)) A.e.b .nil pass0 (pa_cons (pv 2) (pa_cons (pv 4) pa_nil))) (pv 5) (nomark _))
          (pw_or (pt_cmpR (op_neD hu) (pe_meth (pv 0) M.cf.cls A.s.m G2 (hr.mono (by decide)) A.s.b .nil pass0 (pa_cons (pv 2) (pa_cons (pv 4) pa_nil))) (pe_slice sl_tupA (pv 2) (po_some (pv 4)) (po_some (pv 5))) (nomark _))
          (pw_or1 (pt_cmpR op_ne (pv 8) (pv 5) (nomark _)))))) (pss_one ps_never) pss_nil)
      (pss_cons (ps_if (PW.pt (pw_or (pt_cmpR (op_neD hu) (pe_meth (pv 0) M.cf.cls A.k.m G3 (hr.mono (by decide)) A.k.b .nil pass0 (pa_cons (pv 2) (pa_cons (pv 4) pa_nil))) (pe_callTy call_tuple_of (by rfl) T.tuple (by decide +kernel) (pa_cons (pv 7) pa_nil)) (nomark _))
          (pw_or1 (pt_cmpR (op_neD hu) (pe_meth (pv 0) M.cf.cls A.a.m G4 (hr.mono (by decide)) A.a.b .nil pass0 (pa_cons (pv 2) (pa_cons (pv 4) pa_nil))) (pe_callTy call_tuple_of (by rfl) T.tuple (by decide +kernel) (pa_cons (pv 6) pa_nil)) (nomark _))))) (pss_one ps_never) pss_nil)
      (pss_cons (ps_if (PW.pt (pw_and (pt_cmpR op_gt (pv 4) pe_int (nomark _))
          (pw_and1 (pt_cmpR op_notIn_seq (pv 4) (pe_meth (pv 0) M.cf.cls A.k.m G3 (hr.mono (by decide)) A.k.b .nil pass0 (pa_cons (pv 2) (pa_cons (pe_ix ix_list (pv 6) (pe_un un_neg pe_int) (fun _ _ => rfl)) pa_nil))) (by with_unfolding_all rfl))))) (pss_one ps_never) pss_nil)
      (pss_cons (ps_set (i := 10) scPlace.nd rfl (.inl rfl) (pe_tup pa_nil))
      (pss_cons (ps_for PassesOwn.never rfl (pi_list (pv 7)) (pg_name (i := 11) scPlace.nd rfl (.inl rfl))
        (pss_one (ps_set (i := 10) scPlace.nd rfl (.inl rfl) (pe_op op_catA (pv 10) (pe_meth (pv 0) M.cf.cls A.s.m G2 (hr.mono (by decide)) A.s.b .nil pass0 (pa_cons (pv 2) (pa_cons (pv 11) pa_nil)))))))
      (pss_one (ps_ret (pe_and (pe_cmpR (op_eqD hu) (pe_slice sl_tupA (pv 2) (po_some (pv 4)) (po_some (pv 5))) (pe_op op_catA (pe_tup (pa_cons (pe_ix ix_tup (pv 2) (pv 4) (fun _ _ => rfl)) pa_nil)) (pv 10)) (nomark _))
        (pe_one (pe_meth (pv 0) M.cf.cls M.mT GT (hr.mono (by decide)) M.bT .nil pass0 (pa_cons (pe_slice sl_tupA (pv 2) (po_some (pv 4)) (po_some (pv 5))) pa_nil))))))))))))), ?_⟩
    obtain ⟨dx, tn, ta, tl, ho, hn, ha⟩ := tr.ops.ex
    have few := tr.few
    have hx : ∀ j, j < zs.length → atI ((List.range zs.length).map fun j => intV (stopAt l zs j)) (j : Int) = some (intV (stopAt l zs j)) := fun j hj => atI_nat (by rw [List.getElem?_map, List.getElem?_range hj]; rfl)
    obtain ⟨r, fo⟩ := Fo.drop tr.fo hp
    have hd : zs.drop p = zs[p] :: zs.drop (p + 1) := List.drop_eq_getElem_cons hp
    rw [hd] at fo
    obtain ⟨a, m, f2⟩ : ∃ a, (zs[p], a) ∈ l ∧ Fo l (r + a) (zs.drop (p + 1)) := by
      cases fo with
      | cons m h => exact ⟨_, m, h⟩
    have arz := ar_eq tr.nd m
    have a2 : a ≤ 2 := tr.two _ m
    have f3 : Fo l (a + r) (zs.drop (p + 1)) := by
      rw [Nat.add_comm]
      exact f2
    have est : stopAt l zs p = past l zs (p + 1) a := by rw [stop_eq hp, arz]
    have nd0 : (l0.map (·.1)).Nodup := (pm.map _).nodup_iff.mpr tr.nd
    have m0 : (zs[p], a) ∈ l0 := pm.mem_iff.mpr m
    have pl : ∀ k, k ≤ a → past l zs (p + 1) k ≤ zs.length := fun k hk => by
      have h1 := past_le tr.nd f3 hk (by omega)
      have h2 := (ext_fo tr.nd f3).2
      rw [List.length_drop] at h2
      have h3 : past l zs (p + 1) a = p + 1 + ext l (zs.drop (p + 1)) a := rfl
      omega
    -- end, above
    refine ⟨_, rfl, _, rfl, st, _, (p : Int), _, rfl, rfl, SqL.of hst, hx p hp, _, rfl, (p : Int), rfl, by omega, by omega, fun D nD => ?_⟩
    refine lc_range (lo := 0) (n := (p : Int).toNat) (fun i G => G D = some (.lst (((List.range i).filter fun b => decide (p < stopAt l zs b)).map intV)) ∧ Same H G) ⟨upd_same, Same.new nD⟩ ?_ ?_
    · rintro i G hi ⟨eD, sG⟩
      have hi' : i < p := hi
      rw [Int.zero_add]
      refine ⟨rfl, _, rfl, _, rfl, st, _, (i : Int), _, rfl, rfl, SqL.of (sG _ _ hst), hx i (by omega), _, rfl, _, _, rfl, rfl, _, rfl, ?_⟩
      by_cases c : p < stopAt l zs i
      · refine if_true_of (decide_eq_true (by omega)) ⟨_, rfl, _, eD, ?_, ?_, fun b u e => by rw [upd_ne (ne_of_none e nD)]; exact sG b u e⟩
        · have := List.length_filter_le (fun b => decide (p < stopAt l zs b)) (List.range i)
          rw [List.length_range] at this
          rw [List.length_map, sizeLine_eq]
          omega
        · rw [upd_same, List.range_succ, List.filter_append, List.map_append, List.filter_cons_of_pos (by simpa using c)]
          rfl
      · refine if_false_of (decide_eq_false (by omega)) ⟨?_, sG⟩
        rw [eD, List.range_succ, List.filter_append, List.filter_cons_of_neg (by simpa using c)]
        rw [List.filter_nil, List.append_nil]
    rintro G ⟨eD, sG⟩
    have eD : G D = some (.lst ((abv l zs p).map intV)) := eD
    refine ⟨_, _, rfl, ?_⟩
    -- children, at
    refine ⟨by show 0 ≤ sizeLine; decide, fun W nW => ⟨_, rfl, _, _, rfl, rfl, _, _, rfl, ?_⟩⟩
    have nHW : H W = none := sG.free nW
    have DW : D ≠ W := ne_of_none eD nW
    have s1 := sG.trans (Same.new nW (o := .lst []))
    have hD1 := (Same.new nW (o := .lst [])) _ _ eD
    have hxt : atI (zs.map V.str) (p : Int) = some (V.str zs[p]) := atI_nat (by rw [List.getElem?_map, List.getElem?_eq_getElem hp]; rfl)
    refine ⟨_, rfl, _, rfl, _, rfl, t, _, _, _, rfl, rfl, SqT.of (s1 _ _ tr.tup), hxt, ad, _, rfl, val_some nd0 m0 ▸ DGet.k (k := .inr zs[p]) (s1 _ _ had), _, rfl, by omega, by omega, ?_⟩
    refine for_range (lo := 0) (n := (a : Int).toNat) (fun i σ H' => ∃ v9 : Option V, σ = [some (.ref o), some (.ref ad), some (.ref t), some (.ref st), some (.int (p : Int)), some (intV (stopAt l zs p)), some (.ref D), some (.ref W), some (intV (past l zs (p + 1) i)), v9, none, none] ∧ Same H H' ∧ H' D = some (.lst ((abv l zs p).map intV)) ∧
        H' W = some (.lst (((List.range i).map fun k => past l zs (p + 1) k).map intV))) ⟨none, ?_, s1, hD1, upd_same⟩ ?_ ?_
    · rw [past_zero]
      rfl
    · rintro i σ H' hi ⟨v9, rfl, sm, hD, hW⟩
      have hi' : i < a := hi
      have lt : past l zs (p + 1) i < zs.length := Nat.lt_of_lt_of_le (past_lt tr.nd f3 (Nat.lt_succ_self i) (by omega)) (pl (i + 1) (by omega))
      refine ⟨_, rfl, .inl ⟨rfl, _, SqL.of hW⟩, _, rfl, W, _, _, rfl, rfl, hW, by rw [List.length_map, List.length_map, List.length_range, sizeLine_eq]; omega, ?_⟩
      have sm2 : Same H (upd H' W (.lst (((List.range i).map fun k => past l zs (p + 1) k).map intV ++ [intV (past l zs (p + 1) i)]))) := fun b u e => by
        rw [upd_ne (ne_of_none e nHW)]
        exact sm b u e
      refine ⟨_, rfl, _, rfl, st, _, ((past l zs (p + 1) i : Nat) : Int), _, rfl, rfl, SqL.of (sm2 _ _ hst), hx _ lt, ?_⟩
      refine ⟨some (.int (0 + (i : Nat))), ?_, sm2, by rw [upd_ne DW]; exact hD, ?_⟩
      · have e : stopAt l zs (past l zs (p + 1) i) = past l zs (p + 1) (i + 1) := past_succ.symm
        rw [e]
        rfl
      · rw [upd_same, List.range_succ, List.map_append, List.map_append]
        rfl
    rintro σ H1 ⟨v9, rfl, s2, hD, hW⟩
    have ea : (a : Int).toNat = a := Int.toNat_natCast a
    rw [ea, ← est]
    rw [ea, ← kids_range] at hW
    have tr1 := tr.same s2
    -- the first test
    refine ⟨_, rfl, o, dx, _, rfl, s2 _ _ ho, rfl, _, rfl, _, rfl, o, t, l, zs, p, rfl, tr1, hp, _, rfl, rfl, _, rfl, if_false_of neSelf ?_⟩
    refine ⟨_, rfl, o, dx, _, rfl, s2 _ _ ho, rfl, _, rfl, _, rfl, o, t, l, zs, p, rfl, tr1, hp, fun x H2 s3 hx2 => ?_⟩
    refine ⟨_, rfl, _, rfl, _, rfl, _, rfl, _, rfl, slSub tr.nd tr.fo hp ((s2.trans s3) _ _ tr.tup) fun y H3 s4 hy3 => ?_⟩
    refine neStrs (s4 _ _ hx2) hy3 (fun z hz => sok z (sub_mem hz)) ⟨_, rfl, if_false_of rfl ?_⟩
    refine ⟨_, rfl, _, rfl, rfl, _, rfl, if_false_of neSelf ?_⟩
    have s5 := (s2.trans s3).trans s4
    have hD3 := s4 _ _ (s3 _ _ hD)
    have hW3 := s4 _ _ (s3 _ _ hW)
    clear s3 s4 hx2 hy3 hD hW tr1 s2
    -- the second test
    refine ⟨_, rfl, o, dx, _, rfl, s5 _ _ ho, rfl, _, rfl, _, rfl, o, t, l, zs, p, hp, rfl, tr.same s5, fun x H4 s6 hx4 => ?_⟩
    refine ⟨_, rfl, W, _, rfl, .inl ⟨SqL.of (s6 _ _ hW3), fun y ny => ?_⟩⟩
    have s7 := Same.new ny (o := .tup ((kidsFrom l zs (p + 1) a).map intV))
    rw [arz] at hx4
    refine neNats (s7 _ _ hx4) upd_same ⟨_, rfl, if_false_of rfl ?_⟩
    have s8 := (s5.trans s6).trans s7
    have hD5 := s7 _ _ (s6 _ _ hD3)
    have hW5 := s7 _ _ (s6 _ _ hW3)
    clear hx4 hD3 hW3
    generalize upd H4 y (.tup ((kidsFrom l zs (p + 1) a).map intV)) = H5 at s8 hD5 hW5 ⊢
    refine ⟨_, rfl, o, dx, _, rfl, s8 _ _ ho, rfl, _, rfl, _, rfl, o, t, l, zs, p, rfl, tr.same s8, hp, fun x H6 s9 hx6 => ?_⟩
    refine ⟨_, rfl, D, _, rfl, .inl ⟨SqL.of (s9 _ _ hD5), fun y ny => ?_⟩⟩
    have s10 := Same.new ny (o := .tup ((abv l zs p).map intV))
    refine neNats (s10 _ _ hx6) upd_same ⟨_, rfl, if_false_of rfl ?_⟩
    have s11 := (s8.trans s9).trans s10
    have hD7 := s10 _ _ (s9 _ _ hD5)
    have hW7 := s10 _ _ (s9 _ _ hW5)
    clear hx6 hD5 hW5
    generalize upd H6 y (.tup ((abv l zs p).map intV)) = H7 at s11 hD7 hW7 ⊢
    apply join (H := H7)
    · intro fin
      refine ⟨_, rfl, _, _, rfl, rfl, _, rfl, ?_⟩
      by_cases p0 : p = 0
      · exact if_false_of (decide_eq_false (by omega)) (if_false_of rfl (fin H7 (Same.refl _)))
      · have m0 : 0 ∈ abv l zs p := List.mem_filter.mpr ⟨List.mem_range.mpr (by omega), decide_eq_true (by rw [stop_root tr.nd tr.fo]; exact hp)⟩
        obtain ⟨k, hk⟩ : ∃ k, (abv l zs p).getLast? = some k := by
          cases e : (abv l zs p).getLast? with
          | none =>
            rw [List.getLast?_eq_none_iff.mp e] at m0
            cases m0
          | some k => exact ⟨k, rfl⟩
        obtain ⟨_, k2, k3, k4⟩ := (paths_at tr.nd tr.fo hp).2 k hk
        have hl : atI ((abv l zs p).map intV) (-1) = some (intV k) := by
          rw [k2, List.map_append]
          exact atI_last
        refine if_true_of (decide_eq_true (by omega)) ⟨_, rfl, _, rfl, o, dx, _, rfl, s11 _ _ ho, rfl, _, rfl, _, rfl, _, rfl, D, _, -1, intV k, rfl, rfl, SqL.of hD7, hl, o, t, l, zs, k, k3, rfl, tr.same s11, fun x H8 s12 hx8 => ?_⟩
        exact ⟨x, _, rfl, .inr (SqT.of (xs := (kidsFrom l zs (k + 1) (ar l zs[k])).map intV) hx8), rfl, flat_nats, _, rfl, if_false_of (by rw [if_pos rfl, in_nats k4]; rfl) (fin H8 s12)⟩
    intro H8 s12
    have s13 := s11.trans s12
    have hW8 := s12 _ _ hW7
    clear s11 s12 hD7 hW7 s8 s9 s10
    have kl : ∀ c, c ∈ kidsFrom l zs (p + 1) a → c < zs.length := fun c hc => by
      rw [kids_range] at hc
      obtain ⟨k, hk, rfl⟩ := List.mem_map.mp hc
      have hk := List.mem_range.mp hk
      exact Nat.lt_of_lt_of_le (past_lt tr.nd f3 (Nat.lt_succ_self k) (by omega)) (pl (k + 1) (by omega))
    have sl : ∀ c, (sub l zs c).length ≤ zs.length := fun c => by
      have := List.length_take_le' (ext l (zs.drop c) 1) (zs.drop c)
      rw [List.length_drop] at this
      unfold sub
      omega
    have fl : ∀ i, (((kidsFrom l zs (p + 1) a).take i).map (sub l zs)).flatten.length ≤ zs.length := fun i => by
      have e := sub_cons (l := l) hp
      rw [arz] at e
      have h1 := sl p
      rw [e, List.length_cons] at h1
      have h2 : ((kidsFrom l zs (p + 1) a).map (sub l zs)).flatten = (((kidsFrom l zs (p + 1) a).take i).map (sub l zs)).flatten ++ (((kidsFrom l zs (p + 1) a).drop i).map (sub l zs)).flatten := by
        rw [← List.flatten_append, ← List.map_append, List.take_append_drop]
      rw [h2, List.length_append] at h1
      omega
    -- parts
    refine ⟨by show 0 ≤ sizeLine; decide, fun y ny => ?_⟩
    have s14 := s13.trans (Same.new ny (o := .tup []))
    have hW9 := (Same.new ny (o := .tup [])) _ _ hW8
    refine ⟨_, rfl, W, rfl, ⟨_, SqL.of hW9⟩, ?_⟩
    refine for_list (K := K) (a := W) (xs := (kidsFrom l zs (p + 1) a).map intV) (fun i σ H' => ∃ (x : Addr) (v11 : Option V), σ = [some (.ref o), some (.ref ad), some (.ref t), some (.ref st), some (.int (p : Int)), some (intV (stopAt l zs p)), some (.ref D), some (.ref W), some (intV (stopAt l zs p)), v9, some (.ref x), v11] ∧ Same H H' ∧
        H' W = some (.lst ((kidsFrom l zs (p + 1) a).map intV)) ∧ H' x = some (.tup ((((kidsFrom l zs (p + 1) a).take i).map (sub l zs)).flatten.map V.str))) ⟨y, none, rfl, s14, hW9, upd_same⟩ (fun i σ H' _ ⟨_, _, _, _, hW, _⟩ => SqL.of hW) ?_ ?_
    · rintro i v σ H' hv ⟨x, v11, rfl, sm, hW, hx'⟩
      rw [List.getElem?_map] at hv
      obtain ⟨c, hc, rfl⟩ := Option.map_eq_some_iff.mp hv
      have cl := kl c (List.mem_of_getElem? hc)
      have e1 : (((kidsFrom l zs (p + 1) a).take (i + 1)).map (sub l zs)).flatten.map V.str = (((kidsFrom l zs (p + 1) a).take i).map (sub l zs)).flatten.map V.str ++ (sub l zs c).map V.str := by
        rw [List.take_add_one, hc, List.map_append, List.flatten_append, List.map_append]
        simp
      refine ⟨_, rfl, _, rfl, o, dx, _, rfl, sm _ _ ho, rfl, _, rfl, _, rfl, o, t, l, zs, c, rfl, tr.same sm, cl, fun q2 H2 s2 hq2 => ?_⟩
      have hq2 : H2 q2 = some (.tup ((sub l zs c).map V.str)) := hq2
      refine ⟨x, q2, _, _, rfl, rfl, SqT.of (s2 _ _ hx'), SqT.of hq2, ?_, fun e => ?_, fun _ e => ?_, fun _ _ z nz => ?_⟩
      · rw [List.length_map, List.length_map, sizeLine_eq]
        have := fl i
        have := sl c
        omega
      · refine ⟨q2, _, rfl, sm.trans s2, s2 _ _ hW, ?_⟩
        rw [e1, e, List.nil_append]
        exact hq2
      · refine ⟨x, _, rfl, sm.trans s2, s2 _ _ hW, ?_⟩
        rw [e1, e, List.append_nil]
        exact s2 _ _ hx'
      · refine ⟨z, _, rfl, (sm.trans s2).trans (Same.new nz), (Same.new nz) _ _ (s2 _ _ hW), ?_⟩
        rw [e1, upd_same]
    rintro σ H9 ⟨x, v11, rfl, s15, _, hx9⟩
    rw [List.take_of_length_le (by rw [List.length_map]; exact Nat.le_refl _)] at hx9
    have esub : (sub l zs p).map V.str = [V.str zs[p]] ++ ((kidsFrom l zs (p + 1) a).map (sub l zs)).flatten.map V.str := by
      rw [sub_cons hp, arz]
      rfl
    have fin2 : ∀ G, Same H G → tMeth C "is_tree" (spTree C) [] E0 (tVar 0) (tCons (tSl (rSlA K) (tVar 2) (tPart (tVar 4)) (tPart (tVar 5))) tNil) [some (.ref o), some (.ref ad), some (.ref t), some (.ref st), some (.int (p : Int)), some (intV (stopAt l zs p)), some (.ref D), some (.ref W), some (intV (stopAt l zs p)), v9, some (.ref x), v11] G Q := fun G sG => by
      refine ⟨_, rfl, o, dx, _, rfl, sG _ _ ho, rfl, _, rfl, _, rfl, _, rfl, _, rfl, _, rfl, slSub tr.nd tr.fo hp (sG _ _ tr.tup) fun y G2 s2 hy => ?_⟩
      exact ⟨o, y, l, sub l zs p, rfl, ⟨tr.ops.same (sG.trans s2), hy, tr.nd, sub_fo tr.nd tr.fo hp, Nat.le_trans (sl p) few, tr.two⟩, q G2 (sG.trans s2)⟩
    refine ⟨_, rfl, _, rfl, _, rfl, _, rfl, _, rfl, slSub tr.nd tr.fo hp (s15 _ _ tr.tup) fun y G s16 hy => ?_⟩
    have s17 := s15.trans s16
    refine ⟨_, rfl, _, rfl, t, _, _, _, rfl, rfl, SqT.of (s17 _ _ tr.tup), hxt, by show 1 ≤ sizeLine; decide, fun z nz => ?_⟩
    have s18 := Same.new nz (o := .tup [V.str zs[p]])
    refine ⟨_, rfl, z, x, _, _, rfl, rfl, SqT.of upd_same, SqT.of (s18 _ _ (s16 _ _ hx9)), ?_, fun e => (by cases e), fun _ e => ?_, fun _ _ u nu => ?_⟩
    · have := fl (kidsFrom l zs (p + 1) a).length
      rw [List.take_length] at this
      rw [List.length_map, sizeLine_eq]
      simp only [List.length_cons, List.length_nil]
      omega
    · refine eqStrs (zs := sub l zs p) (s18 _ _ hy) ?_ (fun z hz => sok z (sub_mem hz)) ⟨_, rfl, iteT (fin2 _ (s17.trans s18))⟩
      rw [upd_same, esub, e]
      rfl
    · refine eqStrs (zs := sub l zs p) ((Same.new nu) _ _ (s18 _ _ hy)) ?_ (fun z hz => sok z (sub_mem hz)) ⟨_, rfl, iteT (fin2 _ ((s17.trans s18).trans (Same.new nu)))⟩
      rw [upd_same, esub]
end
end Pr
namespace Pr
open PySem PySem.Spec PyProof.Rows L2 Gd
/-! ### the law's own levels -/
theorem mx_snoc {xs : List Nat} {y : Nat} : mx (xs ++ [y]) = if (y : Int) > (mx xs : Int) then y else mx xs := by
  have e : mx (xs ++ [y]) = max (mx xs) y := by
    rw [mx_append]
    show max (mx xs) (max y 0) = _
    rw [Nat.max_eq_left (Nat.zero_le y)]
  rw [e]
  by_cases h : (y : Int) > (mx xs : Int)
  · rw [if_pos h]
    omega
  · rw [if_neg h]
    omega
def spLawLev : Sp := fun vs H Q _ => ∃ (ad t : Addr) (l : List (Str × Nat)) (zs : List Str), vs = [.ref ad, .ref t] ∧ H ad = some (.dK (dkv l)) ∧ H t = some (.tup (zs.map V.str)) ∧ (l.map (·.1)).Nodup ∧ (∀ p ∈ l, p.2 ≤ 2) ∧ Fo l 1 zs ∧ zs.length ≤ 5000 ∧
  ∀ H', Same H H' → Q (.int (lvl l zs : Nat)) H'
section
variable {P : Program} {w : World} {K : PySem.W.Frag} {mg : Str → Option Value} {base : Heap}
theorem scLawLev : FnScope ["arities", "tree", "most", "stops", "place", "at"] ["arities", "tree"] (defScope sLevels) := ⟨rfl, rfl, rfl, by decide +kernel, rfl, by decide +kernel, by decide +kernel⟩
theorem ok_lawLev {f fS : Addr} {fd dS : FuncData} (F : Fun K "_law_levels" "_law_levels" sLevels f fd) (FS : Fun K "_law_stops" "_law_stops" sStops fS dS) (bS : Binds K dS ["arities", "tree"] []) (gS : mg "_law_stops" = some (.ref fS)) (T : Free mg) : FnOk P w K mg base CX0 2 f fd ["arities", "tree"] spLawLev := by
  have GS : FnOk P w K mg base CX0 1 fS dS ["arities", "tree"] spStops := ok_stops FS T
  refine F.ok scLawLev (fun vs H Q E h => ?_) (fun cdv A outer s H vs Q E hr h => ?_)
  · obtain ⟨ad, t, l, zs, rfl, _⟩ := h
    rfl
  · obtain ⟨ad, t, l, zs, rfl, had, ht, nd, two, fo, few, q⟩ := h
    have hu := hr.units
    refine ⟨_, pss_cons (ps_asg (pe_tup (pa_cons pe_int (pa_cons (pe_call GS hr (by rfl) gS FS.kp bS .nil pass0 (pa_cons (pv 0) (pa_cons (pv 1) pa_nil))) pa_nil))) (pg_tup rfl (pgs_cons (pg_name (i := 2) scLawLev.nd rfl (.inl rfl)) (pgs_cons (pg_name (i := 3) scLawLev.nd rfl (by first | exact .inl rfl | exact .inr rfl)) pgs_nil))))
      (pss_cons (ps_for PassesOwn.never rfl (pi_range1 rfl T.range (pa_cons (pe_callB call_len_seq (by rfl) T.len PySem.boot_len (pa_cons (pv 1) pa_nil)) pa_nil)) (pg_name (i := 4) scLawLev.nd rfl (by first | exact .inl rfl | exact .inr rfl))
        (pss_one (ps_set (i := 2) scLawLev.nd rfl (.inl rfl) (pe_callB (call_max2 rfl) (by rfl) T.max (by decide +kernel) (pa_cons (pv 2) (pa_cons (pe_op op_add pe_int (pe_callB call_len_seq (by rfl) T.len PySem.boot_len (pa_cons
          (pe_lc (own := [("at", 5)]) (g := gName 5) (by rfl) scLawLev.nd (pi_range1 rfl T.range (pa_cons (pv 4) pa_nil)) (blkOk_by (own := [("at", 5)]) (N := ["arities", "tree", "most", "stops", "place", "at"]) (sc := defScope sLevels) (by decide +kernel))
            (fun _ _ _ _ _ => pg_name (i := 5) scLawLev.nd rfl (Or.inl rfl)) (fun _ _ _ _ _ => pts_one (pt_cmpR op_gt (pe_ix (ix_listK (K := K) rfl) (pv 3) (pv 5) (fun _ _ => rfl)) (pv 4) (nomark _))) (fun _ _ _ _ _ => pv 5)) pa_nil))) pa_nil))))))
      (pss_one (ps_ret (pv 2)))), ?_⟩
    have lz : (zs.map V.str).length = zs.length := List.length_map _
    refine ⟨_, rfl, _, rfl, ad, t, l, zs, rfl, had, ht, nd, two, fo, few, fun S H1 s1 nS hS => ?_⟩
    refine ⟨by show 2 ≤ sizeLine; decide, fun U nU => ⟨U, _, rfl, SqT.of upd_same, rfl, ?_⟩⟩
    replace hS := (Same.new nU (o := .tup [V.int 0, V.ref S])) _ _ hS
    replace s1 := s1.trans (Same.new nU (o := .tup [V.int 0, V.ref S]))
    refine ⟨_, _, rfl, _, _, rfl, rfl, ?_⟩
    have hx : ∀ j, j < zs.length → atI ((List.range zs.length).map fun j => intV (stopAt l zs j)) (j : Int) = some (intV (stopAt l zs j)) := fun j hj => atI_nat (by rw [List.getElem?_map, List.getElem?_range hj]; rfl)
    refine ⟨_, rfl, t, _, rfl, .inr (SqT.of (s1 _ _ ht)), _, rfl, by rw [lz]; omega, by rw [lz]; omega, ?_⟩
    rw [lz]
    refine for_range (lo := 0) (n := (zs.length : Int).toNat) (fun i σ H' => ∃ v4 : Option V, σ = [some (.ref ad), some (.ref t), some (.int (mx ((List.range i).map fun j => (abv l zs j).length + 1) : Nat)), some (.ref S), v4, none] ∧ Same H H' ∧ H' S = some (.lst ((List.range zs.length).map fun j => intV (stopAt l zs j))))
      ⟨none, rfl, s1, hS⟩ ?_ ?_
    · rintro i σ H' hi ⟨v4, rfl, sm, hS'⟩
      have hi' : i < zs.length := hi
      rw [Int.zero_add]
      refine ⟨_, rfl, _, rfl, (i : Int), rfl, by omega, by omega, fun D nD => ?_⟩
      refine lc_range (lo := 0) (n := (i : Int).toNat) (fun k G => G D = some (.lst (((List.range k).filter fun b => decide (i < stopAt l zs b)).map intV)) ∧ Same H' G) ⟨upd_same, Same.new nD⟩ ?_ ?_
      · rintro k G hk ⟨eD, sG⟩
        have hk' : k < i := hk
        rw [Int.zero_add]
        refine ⟨rfl, _, rfl, _, rfl, S, _, (k : Int), _, rfl, rfl, SqL.of (sG _ _ hS'), hx k (by omega), _, rfl, _, _, rfl, rfl, _, rfl, ?_⟩
        by_cases c : i < stopAt l zs k
        · refine if_true_of (decide_eq_true (by omega)) ⟨_, rfl, _, eD, ?_, ?_, fun b u e => by rw [upd_ne (ne_of_none e nD)]; exact sG b u e⟩
          · have := List.length_filter_le (fun b => decide (i < stopAt l zs b)) (List.range k)
            rw [List.length_range] at this
            rw [List.length_map, sizeLine_eq]
            omega
          · rw [upd_same, List.range_succ, List.filter_append, List.map_append, List.filter_cons_of_pos (by simpa using c)]
            rfl
        · refine if_false_of (decide_eq_false (by omega)) ⟨?_, sG⟩
          rw [eD, List.range_succ, List.filter_append, List.filter_cons_of_neg (by simpa using c)]
          rw [List.filter_nil, List.append_nil]
      rintro G ⟨eD, sG⟩
      have eD : G D = some (.lst ((abv l zs i).map intV)) := eD
      refine ⟨D, _, rfl, .inl (SqL.of eD), _, _, rfl, rfl, _, _, rfl, ?_⟩
      have key : (if (1 : Int) + (((abv l zs i).map intV).length : Nat) > ((mx ((List.range i).map fun j => (abv l zs j).length + 1) : Nat) : Int) then (1 : Int) + (((abv l zs i).map intV).length : Nat) else ((mx ((List.range i).map fun j => (abv l zs j).length + 1) : Nat) : Int)) = ((mx ((List.range (i + 1)).map fun j => (abv l zs j).length + 1) : Nat) : Int) := by
        have e : (1 : Int) + (((abv l zs i).map intV).length : Nat) = (((abv l zs i).length + 1 : Nat) : Int) := by
          rw [List.length_map]
          omega
        rw [e, List.range_succ, List.map_append]
        show _ = ((mx (((List.range i).map fun j => (abv l zs j).length + 1) ++ [(abv l zs i).length + 1]) : Nat) : Int)
        rw [mx_snoc]
        by_cases c : ((((abv l zs i).length + 1 : Nat) : Int) > ((mx ((List.range i).map fun j => (abv l zs j).length + 1) : Nat) : Int))
        · rw [if_pos c, if_pos c]
        · rw [if_neg c, if_neg c]
      rw [key]
      exact ⟨some (.int (i : Int)), rfl, sm.trans sG, sG _ _ hS'⟩
    · rintro σ H' ⟨v4, rfl, sm, hS'⟩
      refine ⟨_, rfl, ?_⟩
      have e : (zs.length : Int).toNat = zs.length := Int.toNat_natCast _
      rw [e, ← lvl_abv nd fo]
      exact q H' sm
end
theorem dpt_perm {l l' : List (Str × Nat)} (nd : (l.map (·.1)).Nodup) (pm : l'.Perm l) : ∀ (zs : List Str) (ds : List Nat), dpt l' zs ds = dpt l zs ds
  | [], _ => by simp [dpt]
  | _ :: _, [] => rfl
  | z :: zs, d :: ds => by
    show d :: dpt l' zs (List.replicate (ar l' z) (d + 1) ++ ds) = d :: dpt l zs (List.replicate (ar l z) (d + 1) ++ ds)
    rw [ar_perm nd pm, dpt_perm nd pm zs]
theorem lvl_perm {l l' : List (Str × Nat)} (nd : (l.map (·.1)).Nodup) (pm : l'.Perm l) (zs : List Str) : lvl l' zs = lvl l zs := by
  unfold lvl
  rw [dpt_perm nd pm]
end Pr
namespace Pr
open PySem PySem.Spec PyProof.Rows L2 Gd
/-! ### a short tuple times a number -/
def rRepB (K : PySem.W.Frag) : R2 := fun x y H Q => ∃ (a : Addr) (m : Nat) (xs : List V), x = .ref a ∧ y = .int (m : Int) ∧ SqT K H a xs ∧ 1 ≤ xs.length ∧ xs.length ≤ 8 ∧ 2 ≤ m ∧ m ≤ 5000 ∧
  ∀ p, H p = none → Q (.ref p) (upd H p (.tup (List.replicate m xs).flatten))
theorem op_repB {X : Cx} : OpR X (binaryOp .Mult) (rRepB X.K) := by
  intro pins s σ H x y v u Q I rx ry h
  obtain ⟨a, m, xs, rfl, rfl, ht, x1, x8, m2, m5, q⟩ := h
  cases rx
  obtain ⟨tk, rfl⟩ := ry
  obtain ⟨us, rel, ⟨⟨ocl, odi, oda, osl⟩, hat, hcl, cnt, hda⟩, _⟩ := I.tuple ht
  dsimp only at hcl hda
  subst hcl hda
  have eu : us.length = xs.length := rel.length.symm
  have full : us.toArray.isEmpty = false := by
    cases us with
    | nil => exact absurd eu (by rw [List.length_nil]; omega)
    | cons _ _ => rfl
  have eus : us.toArray.size = xs.length := by rw [List.size_toArray, eu]
  have prod : xs.length * m ≤ 8 * 5000 := Nat.mul_le_mul x8 m5
  have prodI : ((us.toArray.size : Nat) : Int) * (m : Int) ≤ 40000 := by
    rw [eus]
    have e : ((xs.length : Nat) : Int) * (m : Int) = ((xs.length * m : Nat) : Int) := (Int.natCast_mul _ _).symm
    rw [e]
    omega
  have lenR : ∀ {α : Type} (ys : List α), ys.length = xs.length → (List.replicate m ys).flatten.length ≤ sizeLine := fun ys hy => by
    rw [PyProof.Rows.lm_len_rep_flat, hy, sizeLine_eq, Nat.mul_comm]
    omega
  have g0 : (decide ((m : Int) < -(2 ^ 63)) || decide ((m : Int) ≥ 2 ^ 63)) = false := by
    have h1 : decide ((m : Int) < -(2 ^ 63)) = false := decide_eq_false (by omega)
    have h2 : decide ((m : Int) ≥ 2 ^ 63) = false := decide_eq_false (by omega)
    rw [h1, h2]
    rfl
  have g1 : (us.toArray.isEmpty || (m : Int) == 1) = false := by
    have h1 : ((m : Int) == 1) = false := beq_eq_false_iff_ne.mpr (by omega)
    rw [full, h1]
    rfl
  have g2 : (decide ((m : Int) ≤ 0) || us.toArray.isEmpty) = false := by
    have h1 : decide ((m : Int) ≤ 0) = false := decide_eq_false (by omega)
    rw [full, h1]
    rfl
  have g4 : Builtin.Tuple.tupleTooMany (((us.toArray.size : Nat) : Int) * (m : Int)) = false := by
    unfold Builtin.Tuple.tupleTooMany
    exact decide_eq_false (by rw [sizeLine_eq]; omega)
  have times := tuple_mulW a us.toArray cnt odi osl (m : Int) tk g0 g1 g2 (by omega) g4 (by rw [size_rep, List.size_toArray, Int.toNat_natCast]; exact lenR us eu)
  have other := int_rmul_tuple (m : Int) tk a us.toArray cnt odi osl
  refine wpAny_binaryOp_repeat_ref (T := "tuple")
    (U := "int") (by decide) ⟨_, hat, rfl⟩
    (fun st => typeIs_int st (m : Int) tk)
    noFill_tuple_mul
    F.fills_int_mul F.slot_int_rmul
    repeat_tuple
    F.slot_int_index.lookup ?_
  refine call_meets F.slot_int_rmul (typeIs_int s (m : Int) tk)
    F.entry_int_rmul (F.args_int_rmul_2 _ _) other ⟨hat, rfl, ⟨_, hat, rfl⟩, ?_⟩
  refine call_meets F.slot_tuple_mul ⟨_, hat, rfl⟩
    F.entry_tuple_mul (F.args_tuple_mul_2 _ _) times ⟨hat, ?_⟩
  rw [size_rep, Int.toNat_natCast]
  have ok : ObjOk X.prog X.w (upd H s.heap.objs.size (.tup (List.replicate m xs).flatten)) (s.heap.push { cls := Value.type "tuple", data := Data.seq (List.replicate m us).flatten.toArray }) s.heap.objs.size (.tup (List.replicate m xs).flatten) :=
    ⟨lenR xs rfl, _, rel.rep m, IsTup.new _ _⟩
  exact ⟨.ref s.heap.objs.size, _, I.laid (t' := s.toks) (fun b ob e => Heap.get?_push_of_some _ e) (Nat.le_refl _) ok, rfl, q _ (I.hok.fresh (Nat.le_refl _))⟩
end Pr
namespace Pr
open PySem PySem.Spec PyProof.Rows L2 Gd
/-! ### the written trees -/
def foB (l : List (Str × Nat)) : List Str → Nat → Bool
  | [], n => n == 0
  | _ :: _, 0 => false
  | z :: zs, n + 1 => l.any (fun p => decide (p.1 = z)) && foB l zs (n + ar l z)
theorem foB_sound {l : List (Str × Nat)} (nd : (l.map (·.1)).Nodup) : ∀ {zs : List Str} {n : Nat}, foB l zs n = true → Fo l n zs
  | [], 0, _ => .nil
  | [], n + 1, h => by cases h
  | _ :: _, 0, h => by cases h
  | z :: zs, n + 1, h => by
    obtain ⟨h1, h2⟩ := Bool.and_eq_true_iff.mp (show (l.any (fun p => decide (p.1 = z)) && foB l zs (n + ar l z)) = true from h)
    obtain ⟨p, mp, ep⟩ := List.any_eq_true.mp h1
    have e : p.1 = z := of_decide_eq_true ep
    have m : (z, p.2) ∈ l := by
      rw [← e]
      exact mp
    rw [ar_eq nd m] at h2
    exact .cons m (foB_sound nd h2)
theorem Fo.mem {l : List (Str × Nat)} : ∀ {n : Nat} {zs : List Str}, Fo l n zs → ∀ z ∈ zs, ∃ a, (z, a) ∈ l
  | _, _, .nil, _, m => by cases m
  | _, _, .cons m h, y, hy => by
    rcases List.mem_cons.mp hy with rfl | hy
    · exact ⟨_, m⟩
    · exact Fo.mem h y hy
def wl : List (Str × Nat) := [("c", 0), ("s", 1), ("p", 2)]
def wA : List Str := (List.replicate 2000 [("s" : Str)]).flatten
def wB : List Str := (List.replicate 1000 [("p" : Str), ("c" : Str)]).flatten
def wlong : List Str := (wA ++ wB) ++ [("c" : Str)]
def wsm : List Str := ["p", "p", "c", "c", "s", "c"]
def wc : List Str := ["c"]
theorem wl_nd : (wl.map (·.1)).Nodup := by decide +kernel
theorem wl_ok : OpsOk wl := ⟨by decide +kernel, wl_nd, by decide +kernel, by decide +kernel⟩
/-! the same by the row of arities alone -/
def extA : List Nat → Nat → Nat
  | _, 0 => 0
  | [], _ => 0
  | a :: as, n + 1 => 1 + extA as (n + a)
def dptA : List Nat → List Nat → List Nat
  | [], _ => []
  | _ :: _, [] => []
  | a :: as, d :: ds => d :: dptA as (List.replicate a (d + 1) ++ ds)
def foA : List Nat → Nat → Bool
  | [], n => n == 0
  | _ :: _, 0 => false
  | a :: as, n + 1 => foA as (n + a)
theorem ext_A {l : List (Str × Nat)} : ∀ (zs : List Str) (n : Nat), ext l zs n = extA (zs.map (ar l)) n
  | [], 0 => rfl
  | [], _ + 1 => rfl
  | _ :: _, 0 => rfl
  | z :: zs, n + 1 => congrArg (1 + ·) (ext_A zs (n + ar l z))
theorem dpt_A {l : List (Str × Nat)} : ∀ (zs : List Str) (ds : List Nat), dpt l zs ds = dptA (zs.map (ar l)) ds
  | [], _ => by simp [dpt, dptA]
  | _ :: _, [] => rfl
  | z :: zs, d :: ds => congrArg (d :: ·) (dpt_A zs (List.replicate (ar l z) (d + 1) ++ ds))
theorem foA_sound {l : List (Str × Nat)} (nd : (l.map (·.1)).Nodup) : ∀ {zs : List Str} {n : Nat}, (∀ z ∈ zs, z ∈ l.map (·.1)) → foA (zs.map (ar l)) n = true → Fo l n zs
  | [], 0, _, _ => .nil
  | [], n + 1, _, h => by cases h
  | _ :: _, 0, _, h => by cases h
  | z :: zs, n + 1, k, h => by
    obtain ⟨⟨y, a⟩, mp, ep⟩ := List.mem_map.mp (k z List.mem_cons_self)
    have e : y = z := ep
    subst e
    have h2 : foA (zs.map (ar l)) (n + ar l y) = true := h
    rw [ar_eq nd mp] at h2
    exact .cons mp (foA_sound nd (fun x m => k x (List.mem_cons_of_mem _ m)) h2)
def rowA : List Nat := ((List.replicate 2000 [1]).flatten ++ (List.replicate 1000 [2, 0]).flatten) ++ [0]
theorem ar_wl : ar wl "s" = 1 ∧ ar wl "p" = 2 ∧ ar wl "c" = 0 := by decide +kernel
theorem long_row : wlong.map (ar wl) = rowA := by
  unfold wlong rowA wA wB
  rw [List.map_append, List.map_append, List.map_flatten, List.map_flatten, List.map_replicate, List.map_replicate]
  simp only [List.map_cons, List.map_nil]
  rw [ar_wl.1, ar_wl.2.1, ar_wl.2.2]
theorem row_all : foA rowA 1 = true ∧ rowA.length = 4001 ∧ extA rowA 1 = 4001 ∧ (dptA rowA [1]).all (fun y => decide (y ≤ 3001)) = true ∧ (dptA rowA [1])[4000]? = some 3001 ∧ extA (rowA.drop 2001) 1 = 1 ∧ extA (rowA.drop 2002) 1 = 1999 ∧ rowA[2000]? = some 2 := by decide +kernel
theorem long_in : ∀ z ∈ wlong, z = "s" ∨ z = "p" ∨ z = "c" := fun z m => by
  unfold wlong at m
  rcases List.mem_append.mp m with m | m
  · rcases List.mem_append.mp m with m | m
    · obtain ⟨y, my, mz⟩ := List.mem_flatten.mp m
      rw [(List.mem_replicate.mp my).2] at mz
      exact .inl (List.mem_singleton.mp mz)
    · obtain ⟨y, my, mz⟩ := List.mem_flatten.mp m
      rw [(List.mem_replicate.mp my).2] at mz
      rcases List.mem_cons.mp mz with e | mz
      · exact .inr (.inl e)
      · exact .inr (.inr (List.mem_singleton.mp mz))
  · exact .inr (.inr (List.mem_singleton.mp m))
theorem long_ok : ∀ z ∈ wlong, PyData.strOk z = true := fun z m => by
  rcases long_in z m with rfl | rfl | rfl <;> decide +kernel
theorem long_fo : Fo wl 1 wlong := foA_sound wl_nd (fun z m => by rcases long_in z m with rfl | rfl | rfl <;> decide +kernel) (by rw [long_row]; exact row_all.1)
theorem long_len : wlong.length = 4001 := by
  have e := congrArg List.length long_row
  rw [List.length_map, row_all.2.1] at e
  exact e
theorem long_few : wlong.length ≤ 5000 := by rw [long_len]; decide
theorem long_stop : stopAt wl wlong 0 = 4001 := by
  unfold stopAt past
  rw [List.drop_zero, ext_A, long_row, row_all.2.2.1]
theorem long_stop1 : stopAt wl wlong 2001 = 2002 := by
  unfold stopAt past
  rw [ext_A, List.map_drop, long_row, row_all.2.2.2.2.2.1]
theorem long_kids : kidsFrom wl wlong 2001 2 = [2001, 2002] := by
  have e : kidsFrom wl wlong 2001 2 = [2001, stopAt wl wlong 2001] := rfl
  rw [e, long_stop1]
theorem long_at : ∃ h : 2000 < wlong.length, ar wl wlong[2000] = 2 := by
  refine ⟨by rw [long_len]; decide, ?_⟩
  have e := row_all.2.2.2.2.2.2.2
  rw [← long_row, List.getElem?_map, List.getElem?_eq_getElem (by rw [long_len]; decide)] at e
  exact Option.some.inj e
theorem mx_eq {xs : List Nat} {m : Nat} (h1 : m ∈ xs) (h2 : ∀ y ∈ xs, y ≤ m) : mx xs = m :=
  Nat.le_antisymm (h2 _ (mx_mem (List.ne_nil_of_mem h1))) (mx_le h1)
theorem long_lvl : lvl wl wlong = 3001 := by
  unfold lvl
  rw [dpt_A, long_row]
  exact mx_eq (List.mem_of_getElem? row_all.2.2.2.2.1) fun y m => of_decide_eq_true (List.all_eq_true.mp row_all.2.2.2.1 y m)
theorem long_abv : (abv wl wlong 4000).length = 3000 := by
  have e := row_all.2.2.2.2.1
  rw [← long_row, ← dpt_A, lvl_abv wl_nd long_fo, List.getElem?_map, List.getElem?_range (by rw [long_len]; decide)] at e
  have e2 : (abv wl wlong 4000).length + 1 = 3001 := Option.some.inj e
  omega
theorem sm_fo : Fo wl 1 wsm := foB_sound wl_nd (by decide +kernel)
theorem sm_stop : stopAt wl wsm 1 = 4 := by decide +kernel
theorem sm_sub : sub wl wsm 1 = ([("p" : Str), ("c" : Str), ("c" : Str)] : List Str) := by decide +kernel
theorem sm_kids : kidsFrom wl wsm 1 2 = [1, 4] := by decide +kernel
theorem sm_ar : ∃ h : 0 < wsm.length, ar wl wsm[0] = 2 := ⟨by decide, by decide +kernel⟩
theorem sm_abv : abv wl wsm 3 = [0, 1] := by decide +kernel
theorem sm_lvl : lvl wl wsm = 3 := by decide +kernel
theorem wc_fo : Fo wl 1 wc := foB_sound wl_nd (by decide +kernel)
theorem wc_lvl : lvl wl wc = 1 := by decide +kernel
theorem vA : (List.replicate 2000 [V.str "s"]).flatten = wA.map V.str := by
  unfold wA
  rw [List.map_flatten, List.map_replicate]
  rfl
theorem vB : (List.replicate 1000 [V.str "p", V.str "c"]).flatten = wB.map V.str := by
  unfold wB
  rw [List.map_flatten, List.map_replicate]
  rfl
theorem lA : wA.length = 2000 := by
  unfold wA
  rw [PyProof.Rows.lm_len_rep_flat]
  rfl
theorem lB : wB.length = 2000 := by
  unfold wB
  rw [PyProof.Rows.lm_len_rep_flat]
  rfl
theorem neAny {K : PySem.W.Frag} {H : Hp} {x y : V} {Q : VK} {d : PyData} (hx : Dp K H x d) (hy : Dp K H y d) (hs : SeqAt.shaped d = true) (q : Q (.bl false) H) : rNeD K x y H Q :=
  ⟨_, _, hx, hy, hs, hs, by rw [SeqAt.eqv_refl _ (SeqAt.canLay_of_shaped hs)]; exact q⟩
theorem eqAny {K : PySem.W.Frag} {H : Hp} {x y : V} {Q : VK} {d : PyData} (hx : Dp K H x d) (hy : Dp K H y d) (hs : SeqAt.shaped d = true) (q : Q (.bl true) H) : rEqD K x y H Q :=
  ⟨_, _, hx, hy, hs, hs, by rw [SeqAt.eqv_refl _ (SeqAt.canLay_of_shaped hs)]; exact q⟩
def dLong : PyData := .list [.int 3001, .int 4001, .int 2002, .int 3000, .tuple [.int 2001, .int 2002]]
def dSm : PyData := .list [.int 4, .tuple [.str "p", .str "c", .str "c"], .tuple [.int 1, .int 4], .tuple [.int 0, .int 1], .int 3]
theorem dLong_ok : SeqAt.shaped dLong = true := by decide +kernel
theorem dSm_ok : SeqAt.shaped dSm = true := by decide +kernel
theorem abv_perm {l l' : List (Str × Nat)} (nd : (l.map (·.1)).Nodup) (pm : l'.Perm l) (zs : List Str) (i : Nat) : abv l' zs i = abv l zs i := by
  unfold abv
  refine List.filter_congr fun b _ => ?_
  rw [stop_perm nd pm]
theorem sub_perm {l l' : List (Str × Nat)} (nd : (l.map (·.1)).Nodup) (pm : l'.Perm l) (zs : List Str) (i : Nat) : sub l' zs i = sub l zs i := by
  unfold sub
  rw [ext_perm nd pm]
theorem kids_perm {l l' : List (Str × Nat)} (nd : (l.map (·.1)).Nodup) (pm : l'.Perm l) (zs : List Str) (c n : Nat) : kidsFrom l' zs c n = kidsFrom l zs c n := by
  rw [kids_range, kids_range]
  refine List.map_congr_left fun k _ => ?_
  unfold past
  rw [ext_perm nd pm]
theorem OpsAt.kp {H H' : Hp} {C o d : Addr} {l : List (Str × Nat)} {xs : List V} (h : OpsAt H C o l) (hd : H d = some (.lst xs)) (k : Kp d H H') : OpsAt H' C o l := by
  obtain ⟨dx, tn, ta, tl, a, b, c⟩ := h.ex
  refine ⟨dx, tn, ta, tl, k _ _ (fun e => ?_) a, k _ _ (fun e => ?_) b, k _ _ (fun e => ?_) c⟩
  · rw [e, hd] at a
    cases a
  · rw [e, hd] at b
    cases b
  · rw [e, hd] at c
    cases c
/-- Operators(..) of a dict that is let -/
theorem mkOps {C : Addr} {H1 : Hp} {a x dx : Addr} {l : List (Str × Nat)} {R : Hp → Prop} {E : XK} (nx : H1 x = none) (ndx : H1 dx = none) (ha : H1 a = some (.dK (dkv l))) (ok : OpsOk l) (q : ∀ (l' : List (Str × Nat)) (H' : Hp), Same H1 H' → l'.Perm l → OpsAt H' C x l' → R H') :
    spInit C (.ref x :: ([.ref a] ++ [])) (upd (upd H1 dx (.own x)) x (.ins C dx [])) (fun v H2 => v = .non ∧ R H2) E := by
  have s1 : Same H1 (upd (upd H1 dx (.own x)) x (.ins C dx [])) := fun b u e => by
    rw [upd_ne (ne_of_none e nx), upd_ne (ne_of_none e ndx)]
    exact e
  exact ⟨x, dx, a, l, rfl, upd_same, s1 _ _ ha, ok, fun l' H' pm kp op => ⟨rfl, q l' H' (Kp.over nx s1 kp) pm op⟩⟩
end Pr
namespace Pr
open PySem PySem.Spec PyProof.Rows L2 Gd
def spLaw (K : PySem.W.Frag) : Sp := fun vs H Q _ => ∃ (a : Addr) (ns : List Int), vs = [.ref a] ∧ SqL K H a (ns.map V.int) ∧ ns.length ≤ 63 ∧ ∀ H', Q (.bl true) H'
theorem scLaw : FnScope ["script", "spot", "dice", "arities", "ops", "turn", "tree", "stops", "place", "due", "long", "told", "child"] ["script"] (defScope sLaw) := ⟨rfl, rfl, rfl, by decide +kernel, rfl, by decide +kernel, by decide +kernel⟩
/-- the law's own defs, and the class as it is called -/
structure Own (K : PySem.W.Frag) (mg : Str → Option Value) (C : Addr) (h1 h2 h3 h4 h5 h6 h7 h8 h9 : Addr) (x1 x2 x3 x4 x5 x6 x7 x8 x9 : FuncData) (t1 t2 : Tok) : Prop where
  FD : Fun K "_law_dice" "_law_dice" sDice h1 x1
  bD : Binds K x1 ["script", "spot"] []
  gD : mg "_law_dice" = some (.ref h1)
  FA : Fun K "_law_arities" "_law_arities" sArs h2 x2
  bA : Binds K x2 ["dice"] []
  gA : mg "_law_arities" = some (.ref h2)
  FW : Fun K "_law_drawn_tree" "_law_drawn_tree" sDrawn h3 x3
  bW : Binds K x3 ["dice", "arities", "cap"] []
  gW : mg "_law_drawn_tree" = some (.ref h3)
  FS : Fun K "_law_stops" "_law_stops" sStops h4 x4
  bS : Binds K x4 ["arities", "tree"] []
  gS : mg "_law_stops" = some (.ref h4)
  FL : Fun K "_law_levels" "_law_levels" sLevels h5 x5
  bL : Binds K x5 ["arities", "tree"] []
  gL : mg "_law_levels" = some (.ref h5)
  FP : Fun K "_law_place_right" "_law_place_right" sPlace h6 x6
  bP : Binds K x6 ["ops", "arities", "tree", "stops", "place"] []
  gP : mg "_law_place_right" = some (.ref h6)
  mkO : Mk K C h7
  gC : mg "Operators" = some (.ref C)
  FI : Fun K "__init__" "Operators.__init__" mInit h7 x7
  bI : Binds K x7 ["self", "arities"] []
  FE : Fun K "are_arities" "are_arities" sAre h8 x8
  bE : Binds K x8 ["value"] []
  gE : mg "are_arities" = some (.ref h8)
  FN : Fun K "is_name" "is_name" sName h9 x9
  bN : Binds K x9 ["value"] []
  gN : mg "is_name" = some (.ref h9)
  gm : mg "MAX_LETTERS" = some (.int 8 t1)
  gm2 : mg "MAX_OPERATORS" = some (.int 8 t2)
def spots (n : Int) : Int := if (if n < 4 then n else 4) > 1 then (if n < 4 then n else 4) else 1
theorem spots_le (n : Int) : 1 ≤ spots n ∧ spots n ≤ 4 := by
  unfold spots
  split <;> split <;> omega
section
variable {P : Program} {w : World} {K : PySem.W.Frag} {mg : Str → Option Value} {base : Heap} {C fW fT fC fP fE fI fN : Addr} {dW dT dC dP dE dI dN : FuncData} {tk : Tok} {e1 e2 e3 e4 e5 e6 : Addr} {d1 d2 d3 d4 d5 d6 : FuncData} {h1 h2 h3 h4 h5 h6 h7 h8 h9 : Addr} {x1 x2 x3 x4 x5 x6 x7 x8 x9 : FuncData} {t1 t2 : Tok} {fR fK fM : Addr} {dR dK dM : FuncData}
theorem ok_law {f : Addr} {fd : FuncData} (F : Fun K "law" "law" sLaw f fd) (A : Mall K mg C fW fT fC fP fE fI fN dW dT dC dP dE dI dN tk e1 e2 e3 e4 e5 e6 d1 d2 d3 d4 d5 d6) (O : Own K mg C h1 h2 h3 h4 h5 h6 h7 h8 h9 x1 x2 x3 x4 x5 x6 x7 x8 x9 t1 t2) (D : Draws K mg fR fK fM dR dK dM) (T : Free mg) : FnOk P w K mg base CX0 7 f fd ["script"] (spLaw K) := by
  have M := A.M
  have GD : FnOk P w K mg base CX0 1 h1 x1 ["script", "spot"] (spDice K) := ok_dice O.FD T
  have GR : FnOk P w K mg base CX0 1 fR dR ["dice", "total"] spRoll := ok_roll D.FR T
  have GA : FnOk P w K mg base CX0 3 h2 x2 ["dice"] spArs := ok_ars O.FA D T
  have GW : FnOk P w K mg base CX0 3 h3 x3 ["dice", "arities", "cap"] spDrawn := ok_drawn O.FW D T
  have GS : FnOk P w K mg base CX0 1 h4 x4 ["arities", "tree"] spStops := ok_stops O.FS T
  have GL : FnOk P w K mg base CX0 2 h5 x5 ["arities", "tree"] spLawLev := ok_lawLev O.FL O.FS O.bS O.gS T
  have GP : FnOk P w K mg base CX0 6 h6 x6 ["ops", "arities", "tree", "stops", "place"] (spPlace C) := ok_place O.FP A T
  have GE : FnOk P w K mg base CX0 2 h8 x8 ["value"] spAre := ok_are O.FE T O.gm O.gm2 O.FN O.bN O.gN M.FI M.bI M.gI
  have GI : FnOk P w K mg base CX0 3 h7 x7 ["self", "arities"] (spInit C) := ok_init O.FI T M.cf GE O.FE O.bE O.gE
  have G1 : FnOk P w K mg base CX0 5 e1 d1 ["self", "tree", "place"] (spEnd C) := ok_end A.e.F M T
  have G2 : FnOk P w K mg base CX0 5 e2 d2 ["self", "tree", "place"] (spSub C) := ok_sub A.s.F M T
  have G3 : FnOk P w K mg base CX0 5 e3 d3 ["self", "tree", "place"] (spKids C) := ok_kids A.k.F M T
  have G4 : FnOk P w K mg base CX0 5 e4 d4 ["self", "tree", "place"] (spAbove C) := ok_above A.a.F M T A.p.F A.p.b A.p.m
  have G5 : FnOk P w K mg base CX0 4 e5 d5 ["self", "tree"] (spLvl C) := ok_lvl A.l.F M T A.p.F A.p.b A.p.m
  refine F.ok scLaw (fun vs H Q E h => ?_) (fun cdv A0 outer s H vs Q E hr h => ?_)
  · obtain ⟨a, ns, rfl, _⟩ := h
    rfl
  · obtain ⟨a, ns, rfl, hS, hlen, q⟩ := h
    have hu := hr.units
    refine ⟨_, pss_cons (ps_for PassesOwn.never rfl (pi_range1 rfl T.range (pa_cons (pe_callB (call_max2 rfl) (by rfl) T.max (by decide +kernel) (pa_cons pe_int (pa_cons (pe_callB (call_min2 rfl) (by rfl) T.min (by decide +kernel) (pa_cons pe_int (pa_cons (pe_callB call_len_seq (by rfl) T.len PySem.boot_len (pa_cons (pv 0) pa_nil)) pa_nil))) pa_nil))) pa_nil)) (pg_name (i := 1) scLaw.nd rfl (by first | exact .inl rfl | exact .inr rfl)) (pss_cons (ps_set (i := 2) scLaw.nd rfl (by first | exact .inl rfl | exact .inr rfl) (pe_call GD (hr.mono (by decide)) (by rfl) O.gD O.FD.kp O.bD .nil pass0 (pa_cons (pv 0) (pa_cons (pv 1) pa_nil)))) (pss_cons (ps_set (i := 3) scLaw.nd rfl (by first | exact .inl rfl | exact .inr rfl) (pe_call GA (hr.mono (by decide)) (by rfl) O.gA O.FA.kp O.bA .nil pass0 (pa_cons (pv 2) pa_nil))) (pss_cons (ps_set (i := 4) scLaw.nd rfl (by first | exact .inl rfl | exact .inr rfl) (pe_make O.mkO GI (hr.mono (by decide)) (by rfl) O.gC O.bI .nil pass0 (pa_cons (pv 3) pa_nil))) (pss_one (ps_for PassesOwn.never rfl (pi_range1 rfl T.range (pa_cons pe_int pa_nil)) (pg_name (i := 5) scLaw.nd rfl (by first | exact .inl rfl | exact .inr rfl)) (pss_cons (ps_set (i := 6) scLaw.nd rfl (by first | exact .inl rfl | exact .inr rfl) (pe_call GW (hr.mono (by decide)) (by rfl) O.gW O.FW.kp O.bW .nil pass0 (pa_cons (pv 2) (pa_cons (pv 3) (pa_cons (pe_op op_add pe_int (pe_call GR (hr.mono (by decide)) (by rfl) D.gR D.FR.kp D.bR .nil pass0 (pa_cons (pv 2) (pa_cons pe_int pa_nil)))) pa_nil))))) (pss_cons (ps_set (i := 7) scLaw.nd rfl (by first | exact .inl rfl | exact .inr rfl) (pe_call GS (hr.mono (by decide)) (by rfl) O.gS O.FS.kp O.bS .nil pass0 (pa_cons (pv 3) (pa_cons (pv 6) pa_nil)))) (pss_cons (ps_if (pt_cmpR op_ne (pe_meth (pv 4) A.M.cf.cls A.l.m G5 (hr.mono (by decide)) A.l.b .nil pass0 (pa_cons (pv 6) pa_nil)) (pe_call GL (hr.mono (by decide)) (by rfl) O.gL O.FL.kp O.bL .nil pass0 (pa_cons (pv 3) (pa_cons (pv 6) pa_nil))) (nomark _)) (pss_one ps_never) pss_nil) (pss_cons (ps_for PassesOwn.never rfl (pi_range1 rfl T.range (pa_cons (pe_callB call_len_seq (by rfl) T.len PySem.boot_len (pa_cons (pv 6) pa_nil)) pa_nil)) (pg_name (i := 8) scLaw.nd rfl (by first | exact .inl rfl | exact .inr rfl)) (pss_one (ps_if (pt_not (pt_val (pe_call GP hr (by rfl) O.gP O.FP.kp O.bP .nil pass0 (pa_cons (pv 4) (pa_cons (pv 3) (pa_cons (pv 6) (pa_cons (pv 7) (pa_cons (pv 8) pa_nil)))))))) (pss_one ps_never) pss_nil))) (pss_one (ps_for PassesOwn.never rfl (pi_range1 rfl T.range (pa_cons (pe_callB call_len_seq (by rfl) T.len PySem.boot_len (pa_cons (pv 6) pa_nil)) pa_nil)) (pg_name (i := 8) scLaw.nd rfl (by first | exact .inl rfl | exact .inr rfl)) (pss_cons (ps_set (i := 9) scLaw.nd rfl (by first | exact .inl rfl | exact .inr rfl) (pe_op op_add pe_int (pe_callB (cr_max rfl) (by rfl) T.max (by decide +kernel) (pa_cons (pe_op op_cat (pe_lst (pa_cons pe_int pa_nil)) (pe_lc (own := [("child", 12)]) (g := gName 12) (by rfl) scLaw.nd (pi_tup (pe_meth (pv 4) A.M.cf.cls A.k.m G3 (hr.mono (by decide)) A.k.b .nil pass0 (pa_cons (pv 6) (pa_cons (pv 8) pa_nil)))) (blkOk_by (own := [("child", 12)]) (N := ["script", "spot", "dice", "arities", "ops", "turn", "tree", "stops", "place", "due", "long", "told", "child"]) (sc := defScope sLaw) (by decide +kernel)) (fun _ _ _ _ _ => pg_name (i := 12) scLaw.nd rfl (Or.inl rfl)) (fun _ _ _ _ _ => pts_nil) (fun _ _ _ _ _ => pe_meth (pv 4) A.M.cf.cls A.l.m G5 (hr.mono (by decide)) A.l.b .nil pass0 (pa_cons (pe_meth (pv 4) A.M.cf.cls A.s.m G2 (hr.mono (by decide)) A.s.b .nil pass0 (pa_cons (pv 6) (pa_cons (pv 12) pa_nil))) pa_nil)))) pa_nil)))) (pss_one (ps_if (pt_cmpR op_ne (pe_meth (pv 4) A.M.cf.cls A.l.m G5 (hr.mono (by decide)) A.l.b .nil pass0 (pa_cons (pe_meth (pv 4) A.M.cf.cls A.s.m G2 (hr.mono (by decide)) A.s.b .nil pass0 (pa_cons (pv 6) (pa_cons (pv 8) pa_nil))) pa_nil)) (pv 9) (nomark _)) (pss_one ps_never) pss_nil))))))))))))))) (pss_cons (ps_asg (pe_tup (pa_cons (pe_make O.mkO GI (hr.mono (by decide)) (by rfl) O.gC O.bI .nil pass0 (pa_cons (pe_disp (pps_cons pe_str pe_int (pps_cons pe_str pe_int (pps_cons pe_str pe_int pps_nil))) (by rfl) (by rfl) (fun z => by cases z) (by decide)) pa_nil)) (pa_cons (pe_op op_catA (pe_op op_catA (pe_op op_repB (pe_tup (pa_cons pe_str pa_nil)) pe_int) (pe_op op_repB (pe_tup (pa_cons pe_str (pa_cons pe_str pa_nil))) pe_int)) (pe_tup (pa_cons pe_str pa_nil))) pa_nil))) (pg_tup rfl (pgs_cons (pg_name (i := 4) scLaw.nd rfl (by first | exact .inl rfl | exact .inr rfl)) (pgs_cons (pg_name (i := 10) scLaw.nd rfl (by first | exact .inl rfl | exact .inr rfl)) pgs_nil)))) (pss_cons (ps_set (i := 11) scLaw.nd rfl (by first | exact .inl rfl | exact .inr rfl) (pe_lst (pa_cons (pe_meth (pv 4) A.M.cf.cls A.l.m G5 (hr.mono (by decide)) A.l.b .nil pass0 (pa_cons (pv 10) pa_nil)) (pa_cons (pe_meth (pv 4) A.M.cf.cls A.e.m G1 (hr.mono (by decide)) A.e.b .nil pass0 (pa_cons (pv 10) (pa_cons pe_int pa_nil))) (pa_cons (pe_meth (pv 4) A.M.cf.cls A.e.m G1 (hr.mono (by decide)) A.e.b .nil pass0 (pa_cons (pv 10) (pa_cons pe_int pa_nil))) (pa_cons (pe_callB call_len_seq (by rfl) T.len PySem.boot_len (pa_cons (pe_meth (pv 4) A.M.cf.cls A.a.m G4 (hr.mono (by decide)) A.a.b .nil pass0 (pa_cons (pv 10) (pa_cons pe_int pa_nil))) pa_nil)) pa_nil)))))) (pss_cons (ps_expr (pe_bm PySem.F.plainAttrs_list PySem.F.slot_list_append PySem.F.type_list_append mt_append (pv 11) (pa_cons (pe_meth (pv 4) A.M.cf.cls A.k.m G3 (hr.mono (by decide)) A.k.b .nil pass0 (pa_cons (pv 10) (pa_cons pe_int pa_nil))) pa_nil))) (pss_cons (ps_if (PW.pt (pw_or (pt_cmpR (op_neD hu) (pv 11) (pe_lst (pa_cons pe_int (pa_cons pe_int (pa_cons pe_int (pa_cons pe_int (pa_cons (pe_tup (pa_cons pe_int (pa_cons pe_int pa_nil))) pa_nil)))))) (nomark _)) (pw_or1 (pt_cmpR op_ne (pe_meth (pv 4) A.M.cf.cls A.l.m G5 (hr.mono (by decide)) A.l.b .nil pass0 (pa_cons (pe_tup (pa_cons pe_str pa_nil)) pa_nil)) pe_int (nomark _))))) (pss_one ps_never) pss_nil) (pss_cons (ps_set (i := 6) scLaw.nd rfl (by first | exact .inl rfl | exact .inr rfl) (pe_tup (pa_cons pe_str (pa_cons pe_str (pa_cons pe_str (pa_cons pe_str (pa_cons pe_str (pa_cons pe_str pa_nil)))))))) (pss_cons (ps_set (i := 11) scLaw.nd rfl (by first | exact .inl rfl | exact .inr rfl) (pe_lst (pa_cons (pe_meth (pv 4) A.M.cf.cls A.e.m G1 (hr.mono (by decide)) A.e.b .nil pass0 (pa_cons (pv 6) (pa_cons pe_int pa_nil))) (pa_cons (pe_meth (pv 4) A.M.cf.cls A.s.m G2 (hr.mono (by decide)) A.s.b .nil pass0 (pa_cons (pv 6) (pa_cons pe_int pa_nil))) (pa_cons (pe_meth (pv 4) A.M.cf.cls A.k.m G3 (hr.mono (by decide)) A.k.b .nil pass0 (pa_cons (pv 6) (pa_cons pe_int pa_nil))) (pa_cons (pe_meth (pv 4) A.M.cf.cls A.a.m G4 (hr.mono (by decide)) A.a.b .nil pass0 (pa_cons (pv 6) (pa_cons pe_int pa_nil))) (pa_cons (pe_meth (pv 4) A.M.cf.cls A.l.m G5 (hr.mono (by decide)) A.l.b .nil pass0 (pa_cons (pv 6) pa_nil)) pa_nil))))))) (pss_one (ps_ret (pe_cmpR (op_eqD hu) (pv 11) (pe_lst (pa_cons pe_int (pa_cons (pe_tup (pa_cons pe_str (pa_cons pe_str (pa_cons pe_str pa_nil)))) (pa_cons (pe_tup (pa_cons pe_int (pa_cons pe_int pa_nil))) (pa_cons (pe_tup (pa_cons pe_int (pa_cons pe_int pa_nil))) (pa_cons pe_int pa_nil)))))) (nomark _)))))))))), ?_⟩
    have sl := spots_le (ns.map V.int).length
    refine ⟨_, rfl, a, _, rfl, .inl hS, _, _, rfl, _, _, rfl, _, rfl, by show -(2 ^ 62) ≤ spots _; omega, by show spots _ < 2 ^ 62; omega, ?_⟩
    refine for_range (lo := 0) (n := (spots (ns.map V.int).length).toNat) (fun i σ H' => ∃ v1 v2 v3 v4 v5 v6 v7 v8 v9 : Option V, σ = [some (.ref a), v1, v2, v3, v4, v5, v6, v7, v8, v9, none, none, none] ∧ Same H H')
      ⟨none, none, none, none, none, none, none, none, none, rfl, Same.refl H⟩ ?_ ?_
    · rintro i σ H0 hi ⟨v1, v2, v3, v4, v5, v6, v7, v8, v9, rfl, s0⟩
      have hi' : i < 64 := by omega
      -- dice, arities, ops
      refine ⟨_, rfl, _, rfl, a, ns, i, by simp, s0.seq hS, hi', fun d H1 nd s1 di => ?_⟩
      refine ⟨_, rfl, d, 0, rfl, di, by decide, fun ad l0 H2 nad nad0 k2 had ars di2 => ?_⟩
      refine ⟨_, rfl, fun o dx no ndx ne => ?_⟩
      refine mkOps no ndx had ars.ok fun l H3 s3 pm op => ?_
      have di3 := di2.same s3
      have had3 := s3 _ _ had
      have nHd : H d = none := s0.free nd
      have ndl0 : (l0.map (·.1)).Nodup := ars.nd
      have ndl : (l.map (·.1)).Nodup := (pm.map _).nodup_iff.mpr ndl0
      have s3' : Same H H3 := (Kp.over nd s1 k2 |> s0.trans).trans s3
      obtain ⟨ds3, hd3⟩ := di3.there
      have nad' : ad ≠ d := nad
      have strOk : ∀ z ∈ Pr.pool, PyData.strOk z = true := by decide +kernel
      refine ⟨8, rfl, by decide, by decide, for_range (lo := 0) (n := (8 : Int).toNat) (fun j σ H' => ∃ w5 w6 w7 w8 w9 : Option V, σ = [some (.ref a), some (.int (0 + (i : Int))), some (.ref d), some (.ref ad), some (.ref o), w5, w6, w7, w8, w9, none, none, none] ∧ Kp d H3 H' ∧ Dice H' d (40 + 100 * j))
        ⟨v5, v6, v7, v8, v9, rfl, Kp.refl d H3, di3⟩ ?_ ?_⟩
      · rintro j σ H4 hj ⟨w5, w6, w7, w8, w9, rfl, k4, di4⟩
        have hj' : j < 8 := hj
        -- tree
        refine ⟨_, rfl, _, rfl, _, rfl, d, 28, _, rfl, di4, by omega, by decide, by decide, fun r o1 r0 r1 di5 => ?_⟩
        obtain ⟨rk, rfl⟩ := Int.eq_ofNat_of_zero_le r0
        have hrk : rk < 28 := by omega
        have ecap : (1 : Int) + (rk : Nat) = ((rk + 1 : Nat) : Int) := by omega
        have k5 : Kp d H3 (upd H4 d o1) := k4.trans Kp.upd
        generalize upd H4 d o1 = H5 at di5 k5 ⊢
        refine ⟨_, _, rfl, rfl, d, ad, rk + 1, 40 + 100 * j + 1, l0, by show [V.ref d, V.ref ad, V.int ((1 : Int) + (rk : Nat))] = _; rw [ecap], nad', k5 _ _ nad' had3, ars, by omega, by omega, di5, by omega, fun t zs H6 ntd nt k6 ht fo lz di6 => ?_⟩
        obtain ⟨ds5, hd5⟩ := di5.there
        have op6 : OpsAt H6 C o l := op.kp hd3 (k5.trans k6)
        have had6 := k6 _ _ nad' (k5 _ _ nad' had3)
        have fol : Fo l 1 zs := Fo.perm pm fo
        have few : zs.length ≤ 5000 := by omega
        have two : ∀ p ∈ l, p.2 ≤ 2 := fun p m => ars.two p (pm.mem_iff.mp m)
        have tr6 : TreeAt H6 C o t l zs := ⟨op6, ht, ndl, fol, few, two⟩
        have sok : ∀ z ∈ zs, PyData.strOk z = true := fun z m => by
          obtain ⟨b, mb⟩ := fo.mem z m
          exact strOk _ (ars.pool _ mb)
        have pos : 0 < zs.length := fo.len
        -- stops
        refine ⟨_, rfl, _, rfl, ad, t, l0, zs, rfl, had6, ht, ndl0, ars.two, fo, few, fun S H7 s7 nS hS7 => ?_⟩
        have est : ((List.range zs.length).map fun j => intV (stopAt l0 zs j)) = (List.range zs.length).map fun j => intV (stopAt l zs j) := List.map_congr_left fun j _ => by rw [stop_perm ndl0 pm]
        rw [est] at hS7
        have tr7 := tr6.same s7
        -- levels
        obtain ⟨ox, tn, ta, tl, ho7, hn7, ha7⟩ := tr7.ops.ex
        refine ⟨_, rfl, o, ox, _, rfl, ho7, rfl, _, rfl, o, t, l, zs, rfl, tr7, fun H8 s8 => ?_⟩
        refine ⟨_, rfl, _, rfl, ad, t, l0, zs, rfl, (s7.trans s8) _ _ had6, (s7.trans s8) _ _ ht, ndl0, ars.two, fo, few, fun H9 s9 => ?_⟩
        refine ⟨rfl, _, rfl, if_false_of (by rw [lvl_perm ndl0 pm]; exact neSelf) ?_⟩
        have s10 : Same H7 H9 := s8.trans s9
        have lzv : (zs.map V.str).length = zs.length := List.length_map _
        -- the places
        refine ⟨_, rfl, t, _, rfl, .inr (SqT.of (s10 _ _ tr7.tup)), _, rfl, by rw [lzv]; omega, by rw [lzv]; omega, ?_⟩
        rw [lzv]
        refine for_range (lo := 0) (n := (zs.length : Int).toNat) (fun p σ H' => ∃ u8 : Option V, σ = [some (.ref a), some (.int (0 + (i : Int))), some (.ref d), some (.ref ad), some (.ref o), some (.int (0 + (j : Int))), some (.ref t), some (.ref S), u8, w9, none, none, none] ∧ Same H7 H')
          ⟨w8, rfl, s10⟩ ?_ ?_
        · rintro p σ H10 hp ⟨u8, rfl, s11⟩
          have hp' : p < zs.length := hp
          rw [Int.zero_add (p : Int)]
          exact ⟨_, rfl, _, rfl, _, rfl, _, rfl, _, rfl, o, ad, t, S, l, l0, zs, p, rfl, tr7.same s11, pm.symm, s11 _ _ (s7 _ _ had6), s11 _ _ hS7, sok, hp', fun H11 s12 => ⟨_, rfl, if_false_of rfl ⟨_, rfl, s11.trans s12⟩⟩⟩
        rintro σ H10 ⟨u8, rfl, s11⟩
        -- levels of subtrees
        refine ⟨_, rfl, t, _, rfl, .inr (SqT.of (s11 _ _ tr7.tup)), _, rfl, by rw [lzv]; omega, by rw [lzv]; omega, ?_⟩
        rw [lzv]
        refine for_range (lo := 0) (n := (zs.length : Int).toNat) (fun p σ H' => ∃ u8 u9 : Option V, σ = [some (.ref a), some (.int (0 + (i : Int))), some (.ref d), some (.ref ad), some (.ref o), some (.int (0 + (j : Int))), some (.ref t), some (.ref S), u8, u9, none, none, none] ∧ Same H7 H')
          ⟨u8, w9, rfl, s11⟩ ?_ ?_
        · rintro p σ H11 hp ⟨y8, y9, rfl, s12⟩
          have hp' : p < zs.length := hp
          rw [Int.zero_add (p : Int)]
          have sl : ∀ c, (sub l zs c).length ≤ zs.length := fun c => by
            have := List.length_take_le' (ext l (zs.drop c) 1) (zs.drop c)
            rw [List.length_drop] at this
            unfold sub
            omega
          have subAt : ∀ {G : Hp} {x : Addr} {c : Nat}, Same H7 G → c < zs.length → G x = some (.tup ((sub l zs c).map V.str)) → TreeAt G C o x l (sub l zs c) := fun {G x c} sG hc hx => ⟨tr7.ops.same sG, hx, ndl, sub_fo ndl fol hc, Nat.le_trans (sl c) few, two⟩
          have kin : ∀ c ∈ kidsFrom l zs (p + 1) (ar l zs[p]), c < zs.length := fun c hc => by
            obtain ⟨r, f⟩ := Fo.drop fol hp'
            rw [List.drop_eq_getElem_cons hp'] at f
            obtain ⟨b, mb, f2⟩ : ∃ b, (zs[p], b) ∈ l ∧ Fo l (r + b) (zs.drop (p + 1)) := by
              cases f with
              | cons m h => exact ⟨_, m, h⟩
            rw [ar_eq ndl mb] at hc
            have f3 : Fo l (b + r) (zs.drop (p + 1)) := by
              rw [Nat.add_comm]
              exact f2
            rw [kids_range] at hc
            obtain ⟨k, hk, rfl⟩ := List.mem_map.mp hc
            have hk := List.mem_range.mp hk
            have h1 := past_lt ndl f3 hk (by omega)
            have h2 := (ext_fo ndl f3).2
            rw [List.length_drop] at h2
            have h3 : past l zs (p + 1) b = p + 1 + ext l (zs.drop (p + 1)) b := rfl
            omega
          refine ⟨by show 1 ≤ sizeLine; decide, fun L nL => ?_⟩
          have sL := s12.trans (Same.new nL (o := .lst [V.int 0]))
          have hL := (upd_same (H := H11) (a := L) (o := .lst [V.int 0]))
          generalize upd H11 L (.lst [V.int 0]) = H12 at sL hL ⊢
          refine ⟨_, rfl, o, ox, _, rfl, sL _ _ ho7, rfl, _, rfl, _, rfl, o, t, l, zs, p, hp', rfl, tr7.same sL, fun K1 H13 s13 hK1 => ?_⟩
          have hK1 : H13 K1 = some (.tup ((kidsFrom l zs (p + 1) (ar l zs[p])).map intV)) := hK1
          refine ⟨K1, rfl, ⟨_, SqT.of hK1⟩, fun D1 nD1 => ?_⟩
          have LD : L ≠ D1 := ne_of_none (s13 _ _ hL) nD1
          refine lc_tup (K := K) (a := K1) (xs := (kidsFrom l zs (p + 1) (ar l zs[p])).map intV) (tt := tYes) (vs := [12]) (fun k G => G D1 = some (.lst ((((kidsFrom l zs (p + 1) (ar l zs[p])).take k).map fun c => lvl l (sub l zs c)).map intV)) ∧ Same H13 G) ⟨upd_same, Same.new nD1⟩ (fun k G _ ⟨_, s⟩ => SqT.of (s _ _ hK1)) ?_ ?_
          · rintro k v G hv ⟨eD, sG⟩
            rw [List.getElem?_map] at hv
            obtain ⟨c, hc, rfl⟩ := Option.map_eq_some_iff.mp hv
            have cl := kin c (List.mem_of_getElem? hc)
            have sA := (sL.trans s13).trans sG
            refine ⟨rfl, _, rfl, o, ox, _, rfl, sA _ _ ho7, rfl, _, rfl, o, ox, _, rfl, sA _ _ ho7, rfl, _, rfl, _, rfl, o, t, l, zs, c, rfl, tr7.same sA, cl, fun x G2 s2 hx => ?_⟩
            refine ⟨o, x, l, sub l zs c, rfl, subAt (sA.trans s2) cl hx, fun G3 s3 => ?_⟩
            have eD3 := s3 _ _ (s2 _ _ eD)
            refine ⟨_, eD3, ?_, ?_, fun b u e => ?_⟩
            · rw [List.length_map, List.length_map, List.length_take, sizeLine_eq]
              have h1 := (List.getElem?_eq_some_iff.mp hc).1
              have h2 : (kidsFrom l zs (p + 1) (ar l zs[p])).length = ar l zs[p] := kids_len
              have h3 : ar l zs[p] ≤ 2 := by
                obtain ⟨b, mb⟩ := fol.mem zs[p] (List.getElem_mem hp')
                rw [ar_eq ndl mb]
                exact two _ mb
              omega
            · rw [upd_same, List.take_add_one, hc, List.map_append, List.map_append]
              rfl
            · rw [upd_ne (ne_of_none e nD1)]
              exact s3 _ _ (s2 _ _ (sG _ _ e))
          rintro G ⟨eD, sG⟩
          rw [List.take_of_length_le (by rw [List.length_map]; exact Nat.le_refl _)] at eD
          have sA := (sL.trans s13).trans sG
          have hLG := sG _ _ (s13 _ _ hL)
          have h2 : (kidsFrom l zs (p + 1) (ar l zs[p])).length = ar l zs[p] := kids_len
          have h3 : ar l zs[p] ≤ 2 := by
            obtain ⟨b, mb⟩ := fol.mem zs[p] (List.getElem_mem hp')
            rw [ar_eq ndl mb]
            exact two _ mb
          refine ⟨L, D1, _, _, rfl, rfl, hLG, eD, ?_, fun J nJ => ?_⟩
          · rw [List.length_map, List.length_map, sizeLine_eq]
            simp only [List.length_cons, List.length_nil]
            omega
          have eJ : ([V.int 0] ++ ((kidsFrom l zs (p + 1) (ar l zs[p])).map fun c => lvl l (sub l zs c)).map intV) = (((0 :: (kidsFrom l zs (p + 1) (ar l zs[p])).map fun c => lvl l (sub l zs c))).map fun (x : Nat) => (x : Int)).map V.int := by
            simp only [List.map_cons, List.map_map, List.cons_append, List.nil_append]
            rfl
          have hJ := upd_same (H := G) (a := J) (o := .lst ([V.int 0] ++ ((kidsFrom l zs (p + 1) (ar l zs[p])).map fun c => lvl l (sub l zs c)).map intV))
          have sJ := sA.trans (Same.new nJ (o := .lst ([V.int 0] ++ ((kidsFrom l zs (p + 1) (ar l zs[p])).map fun c => lvl l (sub l zs c)).map intV)))
          generalize upd G J (.lst ([V.int 0] ++ ((kidsFrom l zs (p + 1) (ar l zs[p])).map fun c => lvl l (sub l zs c)).map intV)) = G4 at hJ sJ ⊢
          rw [eJ] at hJ
          refine ⟨J, _, rfl, SqL.of hJ, by rw [List.length_map, List.length_cons]; omega, fun m hm hle => ?_⟩
          have em := mx_of hm hle
          have e0 : mx (0 :: (kidsFrom l zs (p + 1) (ar l zs[p])).map fun c => lvl l (sub l zs c)) = mx ((kidsFrom l zs (p + 1) (ar l zs[p])).map fun c => lvl l (sub l zs c)) := Nat.max_eq_right (Nat.zero_le _)
          rw [e0] at em
          subst em
          refine ⟨_, _, rfl, rfl, ?_⟩
          -- the comparison
          refine ⟨_, rfl, o, ox, _, rfl, sJ _ _ ho7, rfl, _, rfl, o, ox, _, rfl, sJ _ _ ho7, rfl, _, rfl, _, rfl, o, t, l, zs, p, rfl, tr7.same sJ, hp', fun x G5 s5 hx => ?_⟩
          refine ⟨o, x, l, sub l zs p, rfl, subAt (sJ.trans s5) hp' hx, fun G6 s6 => ?_⟩
          have el : ((lvl l (sub l zs p) : Nat) : Int) = 1 + ((mx ((kidsFrom l zs (p + 1) (ar l zs[p])).map fun c => lvl l (sub l zs c)) : Nat) : Int) := by
            rw [lvl_sub ndl fol hp']
            omega
          rw [el]
          exact ⟨_, rfl, rfl, _, rfl, if_false_of neSelf ⟨_, _, rfl, (sJ.trans s5).trans s6⟩⟩
        rintro σ H11 ⟨y8, y9, rfl, s12⟩
        exact ⟨_, _, _, _, _, rfl, (k5.trans k6).trans (Kp.same (s7.trans s12)), ((di6.same s7).same s12).more (by omega) (by omega)⟩
      · rintro σ H4 ⟨w5, w6, w7, w8, w9, rfl, k4, di4⟩
        exact ⟨_, _, _, _, _, _, _, _, _, rfl, fun b u e => k4 b u (ne_of_none e nHd) (s3' _ _ e)⟩
    · rintro σ H1 ⟨v1, v2, v3, v4, v5, v6, v7, v8, v9, rfl, s1⟩
      -- the long tree
      refine fun p np => ⟨upd_same, dkv wl, rfl, by decide, fun o ox no nox ne => ?_⟩
      have hp2 : (upd (upd H1 p (.dK [])) p (.dK (mergeK [] (dkv wl)))) p = some (.dK (dkv wl)) := by rw [upd_same, merge_all wl_nd]
      refine mkOps no nox hp2 wl_ok fun l H2 s2 pm op => ?_
      have ndl : (l.map (·.1)).Nodup := (pm.map _).nodup_iff.mpr wl_nd
      have two : ∀ p ∈ l, p.2 ≤ 2 := fun p m => wl_ok.two p (pm.mem_iff.mp m)
      refine ⟨by show 1 ≤ sizeLine; decide, fun t1 nt1 => ⟨t1, 2000, _, rfl, rfl, SqT.of upd_same, by decide, by decide, by decide, by decide, fun p1 np1 => ?_⟩⟩
      have s3 := (Same.new nt1 (o := .tup [V.str "s"])).trans (Same.new np1 (o := .tup (List.replicate 2000 [V.str "s"]).flatten))
      have hp1 : (upd (upd H2 t1 (.tup [V.str "s"])) p1 (.tup (List.replicate 2000 [V.str "s"]).flatten)) p1 = some (.tup (wA.map V.str)) := by rw [upd_same, vA]
      generalize upd (upd H2 t1 (.tup [V.str "s"])) p1 (.tup (List.replicate 2000 [V.str "s"]).flatten) = H3 at s3 hp1 ⊢
      refine ⟨by show 2 ≤ sizeLine; decide, fun t2 nt2 => ⟨t2, 1000, _, rfl, rfl, SqT.of upd_same, by decide, by decide, by decide, by decide, fun p2 np2 => ?_⟩⟩
      have s4 := (Same.new nt2 (o := .tup [V.str "p", V.str "c"])).trans (Same.new np2 (o := .tup (List.replicate 1000 [V.str "p", V.str "c"]).flatten))
      have hp2 : (upd (upd H3 t2 (.tup [V.str "p", V.str "c"])) p2 (.tup (List.replicate 1000 [V.str "p", V.str "c"]).flatten)) p2 = some (.tup (wB.map V.str)) := by rw [upd_same, vB]
      generalize upd (upd H3 t2 (.tup [V.str "p", V.str "c"])) p2 (.tup (List.replicate 1000 [V.str "p", V.str "c"]).flatten) = H4 at s4 hp2 ⊢
      have lA' : (wA.map V.str).length = 2000 := by rw [List.length_map, lA]
      have lB' : (wB.map V.str).length = 2000 := by rw [List.length_map, lB]
      refine ⟨p1, p2, _, _, rfl, rfl, SqT.of (s4 _ _ hp1), SqT.of hp2, by rw [lA', lB', sizeLine_eq]; omega, fun e => ?_, fun _ e => ?_, fun _ _ p3 np3 => ?_⟩
      · rw [e] at lA'
        cases lA'
      · rw [e] at lB'
        cases lB'
      have s5 := Same.new np3 (o := .tup (wA.map V.str ++ wB.map V.str))
      have hp3 : (upd H4 p3 (.tup (wA.map V.str ++ wB.map V.str))) p3 = some (.tup (wA.map V.str ++ wB.map V.str)) := upd_same
      generalize upd H4 p3 (.tup (wA.map V.str ++ wB.map V.str)) = H5 at s5 hp3 ⊢
      refine ⟨by show 1 ≤ sizeLine; decide, fun t3 nt3 => ?_⟩
      have s6 := Same.new nt3 (o := .tup [V.str "c"])
      refine ⟨p3, t3, _, _, rfl, rfl, SqT.of (s6 _ _ hp3), SqT.of upd_same, ?_, fun e => ?_, fun _ e => (by cases e), fun _ _ t nt => ?_⟩
      · rw [List.length_append, lA', lB', sizeLine_eq]
        simp only [List.length_cons, List.length_nil]
        omega
      · have e2 := congrArg List.length e
        rw [List.length_append, lA', lB'] at e2
        cases e2
      have s7 := s6.trans (Same.new nt (o := .tup ((wA.map V.str ++ wB.map V.str) ++ [V.str "c"])))
      have ht : (upd (upd H5 t3 (.tup [V.str "c"])) t (.tup ((wA.map V.str ++ wB.map V.str) ++ [V.str "c"]))) t = some (.tup (wlong.map V.str)) := by
        rw [upd_same]
        unfold wlong
        rw [List.map_append, List.map_append]
        rfl
      generalize upd (upd H5 t3 (.tup [V.str "c"])) t (.tup ((wA.map V.str ++ wB.map V.str) ++ [V.str "c"])) = H6 at s7 ht ⊢
      refine ⟨by show 2 ≤ sizeLine; decide, fun u nu => ⟨u, _, rfl, SqT.of upd_same, rfl, ?_⟩⟩
      have s8 := Same.new nu (o := .tup [V.ref o, V.ref t])
      have op7 : OpsAt (upd H6 u (.tup [V.ref o, V.ref t])) C o l := ((((op.same s3).same s4).same s5).same s7).same s8
      have ht7 := s8 _ _ ht
      clear s3 s4 s5 s6 s7 hp1 hp2 hp3
      generalize upd H6 u (.tup [V.ref o, V.ref t]) = H7 at op7 ht7 ⊢
      refine ⟨_, _, rfl, _, _, rfl, rfl, ?_⟩
      have tr : TreeAt H7 C o t l wlong := ⟨op7, ht7, ndl, long_fo.perm pm, long_few, two⟩
      obtain ⟨ox, tn, ta, tl, ho, hn, ha⟩ := op7.ex
      have lt : ∀ k, k ≤ 4000 → k < wlong.length := fun k hk => by
        rw [long_len]
        omega
      refine ⟨_, rfl, o, ox, _, rfl, ho, rfl, _, rfl, o, t, l, wlong, rfl, tr, fun H8 s8 => ?_⟩
      refine ⟨_, rfl, o, ox, _, rfl, s8 _ _ ho, rfl, _, rfl, o, t, l, wlong, 0, rfl, tr.same s8, lt 0 (by decide), ?_⟩
      refine ⟨_, rfl, o, ox, _, rfl, s8 _ _ ho, rfl, _, rfl, o, t, l, wlong, 2001, rfl, tr.same s8, lt 2001 (by decide), ?_⟩
      refine ⟨_, rfl, o, ox, _, rfl, s8 _ _ ho, rfl, _, rfl, o, t, l, wlong, 4000, rfl, tr.same s8, lt 4000 (by decide), fun x H9 s9 hx => ?_⟩
      refine ⟨x, _, rfl, .inr (SqT.of hx), by show 4 ≤ sizeLine; decide, fun T2 nT2 => ?_⟩
      have f1 : lvl l wlong = 3001 := by rw [lvl_perm wl_nd pm, long_lvl]
      have f2 : 0 + ext l (wlong.drop 0) 1 = 4001 := by
        have e : 0 + ext l (wlong.drop 0) 1 = stopAt l wlong 0 := rfl
        rw [e, stop_perm wl_nd pm, long_stop]
      have f3 : 2001 + ext l (wlong.drop 2001) 1 = 2002 := by
        have e : 2001 + ext l (wlong.drop 2001) 1 = stopAt l wlong 2001 := rfl
        rw [e, stop_perm wl_nd pm, long_stop1]
      have f4 : ((abv l wlong 4000).map intV).length = 3000 := by rw [List.length_map, abv_perm wl_nd pm, long_abv]
      rw [f1, f2, f3, f4]
      have sT := (s8.trans s9).trans (Same.new nT2 (o := .lst [V.int ((3001 : Nat) : Int), V.int ((4001 : Nat) : Int), V.int ((2002 : Nat) : Int), V.int ((3000 : Nat) : Int)]))
      have hT := upd_same (H := H9) (a := T2) (o := .lst [V.int ((3001 : Nat) : Int), V.int ((4001 : Nat) : Int), V.int ((2002 : Nat) : Int), V.int ((3000 : Nat) : Int)])
      generalize upd H9 T2 (.lst [V.int ((3001 : Nat) : Int), V.int ((4001 : Nat) : Int), V.int ((2002 : Nat) : Int), V.int ((3000 : Nat) : Int)]) = H10 at sT hT ⊢
      obtain ⟨h2000, ar2000⟩ := long_at
      have nT7 : ∀ {b : Addr} {ob : HO}, H7 b = some ob → b ≠ T2 := fun e => ne_of_none ((s8.trans s9) _ _ e) nT2
      refine ⟨_, rfl, .inl ⟨rfl, _, SqL.of hT⟩, _, rfl, o, ox, _, rfl, sT _ _ ho, rfl, _, rfl, o, t, l, wlong, 2000, h2000, rfl, tr.same sT, fun y H11 s11 hy => ?_⟩
      have ky : kidsFrom l wlong (2000 + 1) (ar l wlong[2000]) = [2001, 2002] := by rw [ar_perm wl_nd pm, ar2000, kids_perm wl_nd pm, long_kids]
      rw [ky] at hy
      refine ⟨T2, _, _, rfl, rfl, s11 _ _ hT, by show 4 < sizeLine; decide, ?_⟩
      have hT2 := upd_same (H := H11) (a := T2) (o := .lst ([V.int ((3001 : Nat) : Int), V.int ((4001 : Nat) : Int), V.int ((2002 : Nat) : Int), V.int ((3000 : Nat) : Int)] ++ [V.ref y]))
      have kT : Kp T2 H11 (upd H11 T2 (.lst ([V.int ((3001 : Nat) : Int), V.int ((4001 : Nat) : Int), V.int ((2002 : Nat) : Int), V.int ((3000 : Nat) : Int)] ++ [V.ref y]))) := Kp.upd
      generalize upd H11 T2 (.lst ([V.int ((3001 : Nat) : Int), V.int ((4001 : Nat) : Int), V.int ((2002 : Nat) : Int), V.int ((3000 : Nat) : Int)] ++ [V.ref y])) = H12 at hT2 kT ⊢
      have yT : y ≠ T2 := fun e => by
        rw [e, s11 _ _ hT] at hy
        cases hy
      have hy2 := kT _ _ yT hy
      have s12 : Same H7 H12 := fun b ob e => kT b ob (nT7 e) (s11 _ _ (sT _ _ e))
      refine ⟨_, rfl, by show 2 ≤ sizeLine; decide, fun z nz => ⟨by show 5 ≤ sizeLine; decide, fun w2 nw2 => ?_⟩⟩
      have s13 := (Same.new nz (o := .tup [V.int 2001, V.int 2002])).trans (Same.new nw2 (o := .lst [V.int 3001, V.int 4001, V.int 2002, V.int 3000, V.ref z]))
      have hz := (Same.new nw2 (o := .lst [V.int 3001, V.int 4001, V.int 2002, V.int 3000, V.ref z])) _ _ (upd_same (H := H12) (a := z) (o := .tup [V.int 2001, V.int 2002]))
      refine neAny (d := dLong) (.lst (SqL.of (s13 _ _ hT2)) (.cons (.int _) (.cons (.int _) (.cons (.int _) (.cons (.int _) (.cons (.tup (SqT.of (s13 _ _ hy2)) (.cons (.int _) (.cons (.int _) .nil))) .nil))))))
        (.lst (SqL.of upd_same) (.cons (.int _) (.cons (.int _) (.cons (.int _) (.cons (.int _) (.cons (.tup (SqT.of hz) (.cons (.int _) (.cons (.int _) .nil))) .nil)))))) dLong_ok ⟨_, rfl, if_false_of rfl ?_⟩
      have s14 := s12.trans s13
      generalize upd (upd H12 z (.tup [V.int 2001, V.int 2002])) w2 (.lst [V.int 3001, V.int 4001, V.int 2002, V.int 3000, V.ref z]) = H13 at s14 ⊢
      -- a constant alone
      refine ⟨_, rfl, o, ox, _, rfl, s14 _ _ ho, rfl, by show 1 ≤ sizeLine; decide, fun t4 nt4 => ?_⟩
      have s15 := s14.trans (Same.new nt4 (o := .tup [V.str "c"]))
      refine ⟨o, t4, l, wc, rfl, ⟨tr.ops.same s15, upd_same, ndl, wc_fo.perm pm, by decide, two⟩, fun H14 s16 => ?_⟩
      have fc : lvl l wc = 1 := by rw [lvl_perm wl_nd pm, wc_lvl]
      rw [fc]
      refine ⟨rfl, _, rfl, if_false_of neSelf ?_⟩
      have s17 := s15.trans s16
      -- the small tree
      refine ⟨by show 6 ≤ sizeLine; decide, fun t5 nt5 => ?_⟩
      have s18 := s17.trans (Same.new nt5 (o := .tup [V.str "p", V.str "p", V.str "c", V.str "c", V.str "s", V.str "c"]))
      have ts : TreeAt (upd H14 t5 (.tup [V.str "p", V.str "p", V.str "c", V.str "c", V.str "s", V.str "c"])) C o t5 l wsm := ⟨tr.ops.same s18, upd_same, ndl, sm_fo.perm pm, by decide, two⟩
      generalize upd H14 t5 (.tup [V.str "p", V.str "p", V.str "c", V.str "c", V.str "s", V.str "c"]) = H15 at s18 ts ⊢
      obtain ⟨h0s, ar0s⟩ := sm_ar
      refine ⟨_, rfl, o, ox, _, rfl, s18 _ _ ho, rfl, _, rfl, o, t5, l, wsm, 1, rfl, ts, by decide, ?_⟩
      refine ⟨_, rfl, o, ox, _, rfl, s18 _ _ ho, rfl, _, rfl, o, t5, l, wsm, 1, rfl, ts, by decide, fun b1 H16 z1 hb1 => ?_⟩
      refine ⟨_, rfl, o, ox, _, rfl, z1 _ _ (s18 _ _ ho), rfl, _, rfl, o, t5, l, wsm, 0, h0s, rfl, ts.same z1, fun b2 H17 z2 hb2 => ?_⟩
      refine ⟨_, rfl, o, ox, _, rfl, z2 _ _ (z1 _ _ (s18 _ _ ho)), rfl, _, rfl, o, t5, l, wsm, 3, rfl, (ts.same z1).same z2, by decide, fun b3 H18 z3 hb3 => ?_⟩
      refine ⟨_, rfl, o, ox, _, rfl, z3 _ _ (z2 _ _ (z1 _ _ (s18 _ _ ho))), rfl, _, rfl, o, t5, l, wsm, rfl, ((ts.same z1).same z2).same z3, fun H19 z4 => ?_⟩
      have g1 : 1 + ext l (wsm.drop 1) 1 = 4 := by
        have e : 1 + ext l (wsm.drop 1) 1 = stopAt l wsm 1 := rfl
        rw [e, stop_perm wl_nd pm, sm_stop]
      have g2 : (wsm.drop 1).take (ext l (wsm.drop 1) 1) = ([("p" : Str), ("c" : Str), ("c" : Str)] : List Str) := by
        have e : (wsm.drop 1).take (ext l (wsm.drop 1) 1) = sub l wsm 1 := rfl
        rw [e, sub_perm wl_nd pm, sm_sub]
      have g3 : kidsFrom l wsm (0 + 1) (ar l wsm[0]) = [1, 4] := by rw [ar_perm wl_nd pm, ar0s, kids_perm wl_nd pm, sm_kids]
      have g4 : abv l wsm 3 = [0, 1] := by rw [abv_perm wl_nd pm, sm_abv]
      have g5 : lvl l wsm = 3 := by rw [lvl_perm wl_nd pm, sm_lvl]
      rw [g2] at hb1
      rw [g3] at hb2
      rw [g4] at hb3
      rw [g1, g5]
      refine ⟨by show 5 ≤ sizeLine; decide, fun T3 nT3 => ?_⟩
      have z5 := Same.new nT3 (o := .lst [V.int ((4 : Nat) : Int), V.ref b1, V.ref b2, V.ref b3, V.int ((3 : Nat) : Int)])
      have hT3 := upd_same (H := H19) (a := T3) (o := .lst [V.int ((4 : Nat) : Int), V.ref b1, V.ref b2, V.ref b3, V.int ((3 : Nat) : Int)])
      generalize upd H19 T3 (.lst [V.int ((4 : Nat) : Int), V.ref b1, V.ref b2, V.ref b3, V.int ((3 : Nat) : Int)]) = H20 at z5 hT3 ⊢
      refine ⟨_, rfl, by show 3 ≤ sizeLine; decide, fun y1 ny1 => ⟨by show 2 ≤ sizeLine; decide, fun y2 ny2 => ⟨by show 2 ≤ sizeLine; decide, fun y3 ny3 => ⟨by show 5 ≤ sizeLine; decide, fun y4 ny4 => ?_⟩⟩⟩⟩
      have a1 := Same.new ny1 (o := .tup [V.str "p", V.str "c", V.str "c"])
      have a2 := Same.new ny2 (o := .tup [V.int 1, V.int 4])
      have a3 := Same.new ny3 (o := .tup [V.int 0, V.int 1])
      have a4 := Same.new ny4 (o := .lst [V.int 4, V.ref y1, V.ref y2, V.ref y3, V.int 3])
      have aa := ((a1.trans a2).trans a3).trans a4
      have hb1' := aa _ _ (z5 _ _ (z4 _ _ (z3 _ _ (z2 _ _ hb1))))
      have hb2' := aa _ _ (z5 _ _ (z4 _ _ (z3 _ _ hb2)))
      have hb3' := aa _ _ (z5 _ _ (z4 _ _ hb3))
      have hy1 := a4 _ _ (a3 _ _ (a2 _ _ (upd_same (H := H20) (a := y1) (o := .tup [V.str "p", V.str "c", V.str "c"]))))
      have hy2 := a4 _ _ (a3 _ _ (upd_same (H := upd H20 y1 (.tup [V.str "p", V.str "c", V.str "c"])) (a := y2) (o := .tup [V.int 1, V.int 4])))
      have hy3 := a4 _ _ (upd_same (H := upd (upd H20 y1 (.tup [V.str "p", V.str "c", V.str "c"])) y2 (.tup [V.int 1, V.int 4])) (a := y3) (o := .tup [V.int 0, V.int 1]))
      exact eqAny (d := dSm) (.lst (SqL.of (aa _ _ hT3)) (.cons (.int _) (.cons (.tup (SqT.of hb1') (.cons (.str _) (.cons (.str _) (.cons (.str _) .nil)))) (.cons (.tup (SqT.of hb2') (.cons (.int _) (.cons (.int _) .nil))) (.cons (.tup (SqT.of hb3') (.cons (.int _) (.cons (.int _) .nil))) (.cons (.int _) .nil))))))
        (.lst (SqL.of upd_same) (.cons (.int _) (.cons (.tup (SqT.of hy1) (.cons (.str _) (.cons (.str _) (.cons (.str _) .nil)))) (.cons (.tup (SqT.of hy2) (.cons (.int _) (.cons (.int _) .nil))) (.cons (.tup (SqT.of hy3) (.cons (.int _) (.cons (.int _) .nil))) (.cons (.int _) .nil)))))) dSm_ok (q _)
end
end Pr
namespace Pr
open PySem PySem.Spec PyProof.Rows L2 Gd
theorem all_mk {P : Program} {w : World} {K : PySem.W.Frag} {h : Heap} {mg : Str → Option Value} {fa : Addr} (X : K.In h) (G : h.Ns mainGlobals mg) (hfa : mg "law" = some (.ref fa))
    {f1 : Addr} {od1 an1 : Option Addr} {sl1 : Array (Option Value)} {oc1 kV1 dc1 pm1 cd1 ct1 : Value}
    {f2 : Addr} {od2 an2 : Option Addr} {sl2 : Array (Option Value)} {oc2 kV2 dc2 pm2 cd2 ct2 : Value}
    {f3 : Addr} {od3 an3 : Option Addr} {sl3 : Array (Option Value)} {oc3 kV3 dc3 pm3 cd3 ct3 : Value}
    {f4 : Addr} {od4 an4 : Option Addr} {sl4 : Array (Option Value)} {oc4 kV4 dc4 pm4 cd4 ct4 : Value}
    {f5 : Addr} {od5 an5 : Option Addr} {sl5 : Array (Option Value)} {oc5 kV5 dc5 pm5 cd5 ct5 : Value}
    {f6 : Addr} {od6 an6 : Option Addr} {sl6 : Array (Option Value)} {oc6 kV6 dc6 pm6 cd6 ct6 : Value}
    {f7 : Addr} {od7 an7 : Option Addr} {sl7 : Array (Option Value)} {oc7 kV7 dc7 pm7 cd7 ct7 : Value}
    {f8 : Addr} {od8 an8 : Option Addr} {sl8 : Array (Option Value)} {oc8 kV8 dc8 pm8 cd8 ct8 : Value}
    {f9 : Addr} {od9 an9 : Option Addr} {sl9 : Array (Option Value)} {oc9 kV9 dc9 pm9 cd9 ct9 : Value}
    {f10 : Addr} {od10 an10 : Option Addr} {sl10 : Array (Option Value)} {oc10 kV10 dc10 pm10 cd10 ct10 : Value}
    {f11 : Addr} {od11 an11 : Option Addr} {sl11 : Array (Option Value)} {oc11 kV11 dc11 pm11 cd11 ct11 : Value}
    {f12 : Addr} {od12 an12 : Option Addr} {sl12 : Array (Option Value)} {oc12 kV12 dc12 pm12 cd12 ct12 : Value}
    {f13 : Addr} {od13 an13 : Option Addr} {sl13 : Array (Option Value)} {oc13 kV13 dc13 pm13 cd13 ct13 : Value}
    {f14 : Addr} {od14 an14 : Option Addr} {sl14 : Array (Option Value)} {oc14 kV14 dc14 pm14 cd14 ct14 : Value}
    {f15 : Addr} {od15 an15 : Option Addr} {sl15 : Array (Option Value)} {oc15 kV15 dc15 pm15 cd15 ct15 : Value}
    {C : Addr}
    {f16 : Addr} {od16 an16 : Option Addr} {sl16 : Array (Option Value)} {oc16 kV16 dc16 pm16 cd16 ct16 : Value}
    {f17 : Addr} {od17 an17 : Option Addr} {sl17 : Array (Option Value)} {oc17 kV17 dc17 pm17 cd17 ct17 : Value}
    {f18 : Addr} {od18 an18 : Option Addr} {sl18 : Array (Option Value)} {oc18 kV18 dc18 pm18 cd18 ct18 : Value}
    {f19 : Addr} {od19 an19 : Option Addr} {sl19 : Array (Option Value)} {oc19 kV19 dc19 pm19 cd19 ct19 : Value}
    {f20 : Addr} {od20 an20 : Option Addr} {sl20 : Array (Option Value)} {oc20 kV20 dc20 pm20 cd20 ct20 : Value}
    {f21 : Addr} {od21 an21 : Option Addr} {sl21 : Array (Option Value)} {oc21 kV21 dc21 pm21 cd21 ct21 : Value}
    {f22 : Addr} {od22 an22 : Option Addr} {sl22 : Array (Option Value)} {oc22 kV22 dc22 pm22 cd22 ct22 : Value}
    {f23 : Addr} {od23 an23 : Option Addr} {sl23 : Array (Option Value)} {oc23 kV23 dc23 pm23 cd23 ct23 : Value}
    {f24 : Addr} {od24 an24 : Option Addr} {sl24 : Array (Option Value)} {oc24 kV24 dc24 pm24 cd24 ct24 : Value}
    {f25 : Addr} {od25 an25 : Option Addr} {sl25 : Array (Option Value)} {oc25 kV25 dc25 pm25 cd25 ct25 : Value}
    {f26 : Addr} {od26 an26 : Option Addr} {sl26 : Array (Option Value)} {oc26 kV26 dc26 pm26 cd26 ct26 : Value}
    {tk_MAX_TREE : Tok}
    {tk_MAX_OPERATORS : Tok}
    {tk_MAX_LETTERS : Tok}
    (a1 : PySem.W.nsIn K mainGlobals "is_integer" = some (some (.ref f1)))
    (l1 : K.lookup f1 = some ⟨oc1, od1, .func (PySem.W.fnOf "is_integer" "is_integer" (defArgs sInteger) (defBody sInteger) (defScope sInteger) .none kV1 dc1 pm1 an1 cd1 ct1), sl1⟩)
    (c1 : PySem.W.codeIn K cd1 "is_integer" = true)
    (k1 : PySem.W.keepIn K (.ref f1) = true)
    (a2 : PySem.W.nsIn K mainGlobals "is_count" = some (some (.ref f2)))
    (l2 : K.lookup f2 = some ⟨oc2, od2, .func (PySem.W.fnOf "is_count" "is_count" (defArgs sCount) (defBody sCount) (defScope sCount) .none kV2 dc2 pm2 an2 cd2 ct2), sl2⟩)
    (c2 : PySem.W.codeIn K cd2 "is_count" = true)
    (k2 : PySem.W.keepIn K (.ref f2) = true)
    (a3 : PySem.W.nsIn K mainGlobals "is_name" = some (some (.ref f3)))
    (l3 : K.lookup f3 = some ⟨oc3, od3, .func (PySem.W.fnOf "is_name" "is_name" (defArgs sName) (defBody sName) (defScope sName) .none kV3 dc3 pm3 an3 cd3 ct3), sl3⟩)
    (c3 : PySem.W.codeIn K cd3 "is_name" = true)
    (k3 : PySem.W.keepIn K (.ref f3) = true)
    (a4 : PySem.W.nsIn K mainGlobals "are_arities" = some (some (.ref f4)))
    (l4 : K.lookup f4 = some ⟨oc4, od4, .func (PySem.W.fnOf "are_arities" "are_arities" (defArgs sAre) (defBody sAre) (defScope sAre) .none kV4 dc4 pm4 an4 cd4 ct4), sl4⟩)
    (c4 : PySem.W.codeIn K cd4 "are_arities" = true)
    (k4 : PySem.W.keepIn K (.ref f4) = true)
    (a5 : PySem.W.nsIn K mainGlobals "is_whole" = some (some (.ref f5)))
    (l5 : K.lookup f5 = some ⟨oc5, od5, .func (PySem.W.fnOf "is_whole" "is_whole" (defArgs sWhole) (defBody sWhole) (defScope sWhole) .none kV5 dc5 pm5 an5 cd5 ct5), sl5⟩)
    (c5 : PySem.W.codeIn K cd5 "is_whole" = true)
    (k5 : PySem.W.keepIn K (.ref f5) = true)
    (a6 : PySem.W.nsIn K mainGlobals "_law_dice" = some (some (.ref f6)))
    (l6 : K.lookup f6 = some ⟨oc6, od6, .func (PySem.W.fnOf "_law_dice" "_law_dice" (defArgs sDice) (defBody sDice) (defScope sDice) .none kV6 dc6 pm6 an6 cd6 ct6), sl6⟩)
    (c6 : PySem.W.codeIn K cd6 "_law_dice" = true)
    (k6 : PySem.W.keepIn K (.ref f6) = true)
    (a7 : PySem.W.nsIn K mainGlobals "_law_roll" = some (some (.ref f7)))
    (l7 : K.lookup f7 = some ⟨oc7, od7, .func (PySem.W.fnOf "_law_roll" "_law_roll" (defArgs sRoll) (defBody sRoll) (defScope sRoll) .none kV7 dc7 pm7 an7 cd7 ct7), sl7⟩)
    (c7 : PySem.W.codeIn K cd7 "_law_roll" = true)
    (k7 : PySem.W.keepIn K (.ref f7) = true)
    (a8 : PySem.W.nsIn K mainGlobals "_law_pick" = some (some (.ref f8)))
    (l8 : K.lookup f8 = some ⟨oc8, od8, .func (PySem.W.fnOf "_law_pick" "_law_pick" (defArgs sPick) (defBody sPick) (defScope sPick) .none kV8 dc8 pm8 an8 cd8 ct8), sl8⟩)
    (c8 : PySem.W.codeIn K cd8 "_law_pick" = true)
    (k8 : PySem.W.keepIn K (.ref f8) = true)
    (a9 : PySem.W.nsIn K mainGlobals "_law_mixed" = some (some (.ref f9)))
    (l9 : K.lookup f9 = some ⟨oc9, od9, .func (PySem.W.fnOf "_law_mixed" "_law_mixed" (defArgs sMixed) (defBody sMixed) (defScope sMixed) .none kV9 dc9 pm9 an9 cd9 ct9), sl9⟩)
    (c9 : PySem.W.codeIn K cd9 "_law_mixed" = true)
    (k9 : PySem.W.keepIn K (.ref f9) = true)
    (a10 : PySem.W.nsIn K mainGlobals "_law_drawn_tree" = some (some (.ref f10)))
    (l10 : K.lookup f10 = some ⟨oc10, od10, .func (PySem.W.fnOf "_law_drawn_tree" "_law_drawn_tree" (defArgs sDrawn) (defBody sDrawn) (defScope sDrawn) .none kV10 dc10 pm10 an10 cd10 ct10), sl10⟩)
    (c10 : PySem.W.codeIn K cd10 "_law_drawn_tree" = true)
    (k10 : PySem.W.keepIn K (.ref f10) = true)
    (a11 : PySem.W.nsIn K mainGlobals "_law_arities" = some (some (.ref f11)))
    (l11 : K.lookup f11 = some ⟨oc11, od11, .func (PySem.W.fnOf "_law_arities" "_law_arities" (defArgs sArs) (defBody sArs) (defScope sArs) .none kV11 dc11 pm11 an11 cd11 ct11), sl11⟩)
    (c11 : PySem.W.codeIn K cd11 "_law_arities" = true)
    (k11 : PySem.W.keepIn K (.ref f11) = true)
    (a12 : PySem.W.nsIn K mainGlobals "_law_stops" = some (some (.ref f12)))
    (l12 : K.lookup f12 = some ⟨oc12, od12, .func (PySem.W.fnOf "_law_stops" "_law_stops" (defArgs sStops) (defBody sStops) (defScope sStops) .none kV12 dc12 pm12 an12 cd12 ct12), sl12⟩)
    (c12 : PySem.W.codeIn K cd12 "_law_stops" = true)
    (k12 : PySem.W.keepIn K (.ref f12) = true)
    (a13 : PySem.W.nsIn K mainGlobals "_law_place_right" = some (some (.ref f13)))
    (l13 : K.lookup f13 = some ⟨oc13, od13, .func (PySem.W.fnOf "_law_place_right" "_law_place_right" (defArgs sPlace) (defBody sPlace) (defScope sPlace) .none kV13 dc13 pm13 an13 cd13 ct13), sl13⟩)
    (c13 : PySem.W.codeIn K cd13 "_law_place_right" = true)
    (k13 : PySem.W.keepIn K (.ref f13) = true)
    (a14 : PySem.W.nsIn K mainGlobals "_law_levels" = some (some (.ref f14)))
    (l14 : K.lookup f14 = some ⟨oc14, od14, .func (PySem.W.fnOf "_law_levels" "_law_levels" (defArgs sLevels) (defBody sLevels) (defScope sLevels) .none kV14 dc14 pm14 an14 cd14 ct14), sl14⟩)
    (c14 : PySem.W.codeIn K cd14 "_law_levels" = true)
    (k14 : PySem.W.keepIn K (.ref f14) = true)
    (a15 : PySem.W.nsIn K mainGlobals "law" = some (some (.ref f15)))
    (l15 : K.lookup f15 = some ⟨oc15, od15, .func (PySem.W.fnOf "law" "law" (defArgs sLaw) (defBody sLaw) (defScope sLaw) .none kV15 dc15 pm15 an15 cd15 ct15), sl15⟩)
    (c15 : PySem.W.codeIn K cd15 "law" = true)
    (k15 : PySem.W.keepIn K (.ref f15) = true)
    (n_C : PySem.W.nsIn K mainGlobals "Operators" = some (some (.ref C)))
    (pg_C : PySem.W.plainGet K C Str.empty = true)
    (hd_C : PySem.W.hasDictIn K C = true)
    (po_C : PySem.W.plainOver K C = true)
    (sa_C : PySem.W.findIn K (.ref C) "__setattr__" = some (some (.builtin "object.__setattr__")))
    (mk_C : PySem.W.makesIn K C = true)
    (kc_C : PySem.W.keepIn K (.ref C) = true)
    (no0_C : PySem.W.findIn K (.ref C) "_names" = some none)
    (no1_C : PySem.W.findIn K (.ref C) "_arities" = some none)
    (no2_C : PySem.W.findIn K (.ref C) "_lines" = some none)
    (no3_C : PySem.W.findIn K (.ref C) "_many" = some none)
    (no4_C : PySem.W.findIn K (.ref C) "_counts" = some none)
    (no5_C : PySem.W.findIn K (.ref C) "_rows" = some none)
    (a16 : PySem.W.findIn K (.ref C) "__init__" = some (some (.ref f16)))
    (i16 : PySem.W.isFn K (.ref f16) = true)
    (l16 : K.lookup f16 = some ⟨oc16, od16, .func (PySem.W.fnOf "__init__" "Operators.__init__" (defArgs mInit) (defBody mInit) (defScope mInit) .none kV16 dc16 pm16 an16 cd16 ct16), sl16⟩)
    (c16 : PySem.W.codeIn K cd16 "Operators.__init__" = true)
    (k16 : PySem.W.keepIn K (.ref f16) = true)
    (a17 : PySem.W.findIn K (.ref C) "is_tree" = some (some (.ref f17)))
    (i17 : PySem.W.isFn K (.ref f17) = true)
    (l17 : K.lookup f17 = some ⟨oc17, od17, .func (PySem.W.fnOf "is_tree" "Operators.is_tree" (defArgs mIsTree) (defBody mIsTree) (defScope mIsTree) .none kV17 dc17 pm17 an17 cd17 ct17), sl17⟩)
    (c17 : PySem.W.codeIn K cd17 "Operators.is_tree" = true)
    (k17 : PySem.W.keepIn K (.ref f17) = true)
    (a18 : PySem.W.findIn K (.ref C) "end" = some (some (.ref f18)))
    (i18 : PySem.W.isFn K (.ref f18) = true)
    (l18 : K.lookup f18 = some ⟨oc18, od18, .func (PySem.W.fnOf "end" "Operators.end" (defArgs mEnd) (defBody mEnd) (defScope mEnd) .none kV18 dc18 pm18 an18 cd18 ct18), sl18⟩)
    (c18 : PySem.W.codeIn K cd18 "Operators.end" = true)
    (k18 : PySem.W.keepIn K (.ref f18) = true)
    (a19 : PySem.W.findIn K (.ref C) "subtree" = some (some (.ref f19)))
    (i19 : PySem.W.isFn K (.ref f19) = true)
    (l19 : K.lookup f19 = some ⟨oc19, od19, .func (PySem.W.fnOf "subtree" "Operators.subtree" (defArgs mSub) (defBody mSub) (defScope mSub) .none kV19 dc19 pm19 an19 cd19 ct19), sl19⟩)
    (c19 : PySem.W.codeIn K cd19 "Operators.subtree" = true)
    (k19 : PySem.W.keepIn K (.ref f19) = true)
    (a20 : PySem.W.findIn K (.ref C) "children" = some (some (.ref f20)))
    (i20 : PySem.W.isFn K (.ref f20) = true)
    (l20 : K.lookup f20 = some ⟨oc20, od20, .func (PySem.W.fnOf "children" "Operators.children" (defArgs mKids) (defBody mKids) (defScope mKids) .none kV20 dc20 pm20 an20 cd20 ct20), sl20⟩)
    (c20 : PySem.W.codeIn K cd20 "Operators.children" = true)
    (k20 : PySem.W.keepIn K (.ref f20) = true)
    (a21 : PySem.W.findIn K (.ref C) "above" = some (some (.ref f21)))
    (i21 : PySem.W.isFn K (.ref f21) = true)
    (l21 : K.lookup f21 = some ⟨oc21, od21, .func (PySem.W.fnOf "above" "Operators.above" (defArgs mAbove) (defBody mAbove) (defScope mAbove) .none kV21 dc21 pm21 an21 cd21 ct21), sl21⟩)
    (c21 : PySem.W.codeIn K cd21 "Operators.above" = true)
    (k21 : PySem.W.keepIn K (.ref f21) = true)
    (a22 : PySem.W.findIn K (.ref C) "levels" = some (some (.ref f22)))
    (i22 : PySem.W.isFn K (.ref f22) = true)
    (l22 : K.lookup f22 = some ⟨oc22, od22, .func (PySem.W.fnOf "levels" "Operators.levels" (defArgs mLevels) (defBody mLevels) (defScope mLevels) .none kV22 dc22 pm22 an22 cd22 ct22), sl22⟩)
    (c22 : PySem.W.codeIn K cd22 "Operators.levels" = true)
    (k22 : PySem.W.keepIn K (.ref f22) = true)
    (a23 : PySem.W.findIn K (.ref C) "_check_tree" = some (some (.ref f23)))
    (i23 : PySem.W.isFn K (.ref f23) = true)
    (l23 : K.lookup f23 = some ⟨oc23, od23, .func (PySem.W.fnOf "_check_tree" "Operators._check_tree" (defArgs mChTree) (defBody mChTree) (defScope mChTree) .none kV23 dc23 pm23 an23 cd23 ct23), sl23⟩)
    (c23 : PySem.W.codeIn K cd23 "Operators._check_tree" = true)
    (k23 : PySem.W.keepIn K (.ref f23) = true)
    (a24 : PySem.W.findIn K (.ref C) "_check_place" = some (some (.ref f24)))
    (i24 : PySem.W.isFn K (.ref f24) = true)
    (l24 : K.lookup f24 = some ⟨oc24, od24, .func (PySem.W.fnOf "_check_place" "Operators._check_place" (defArgs mChPlace) (defBody mChPlace) (defScope mChPlace) .none kV24 dc24 pm24 an24 cd24 ct24), sl24⟩)
    (c24 : PySem.W.codeIn K cd24 "Operators._check_place" = true)
    (k24 : PySem.W.keepIn K (.ref f24) = true)
    (a25 : PySem.W.findIn K (.ref C) "_end" = some (some (.ref f25)))
    (i25 : PySem.W.isFn K (.ref f25) = true)
    (l25 : K.lookup f25 = some ⟨oc25, od25, .func (PySem.W.fnOf "_end" "Operators._end" (defArgs m_End) (defBody m_End) (defScope m_End) .none kV25 dc25 pm25 an25 cd25 ct25), sl25⟩)
    (c25 : PySem.W.codeIn K cd25 "Operators._end" = true)
    (k25 : PySem.W.keepIn K (.ref f25) = true)
    (a26 : PySem.W.findIn K (.ref C) "_parents" = some (some (.ref f26)))
    (i26 : PySem.W.isFn K (.ref f26) = true)
    (l26 : K.lookup f26 = some ⟨oc26, od26, .func (PySem.W.fnOf "_parents" "Operators._parents" (defArgs mParents) (defBody mParents) (defScope mParents) .none kV26 dc26 pm26 an26 cd26 ct26), sl26⟩)
    (c26 : PySem.W.codeIn K cd26 "Operators._parents" = true)
    (k26 : PySem.W.keepIn K (.ref f26) = true)
    (cn_MAX_TREE : PySem.W.nsIn K mainGlobals "MAX_TREE" = some (some (.int 5000 tk_MAX_TREE)))
    (cn_MAX_OPERATORS : PySem.W.nsIn K mainGlobals "MAX_OPERATORS" = some (some (.int 8 tk_MAX_OPERATORS)))
    (cn_MAX_LETTERS : PySem.W.nsIn K mainGlobals "MAX_LETTERS" = some (some (.int 8 tk_MAX_LETTERS)))
    (z_len : PySem.W.nsIn K mainGlobals "len" = some none)
    (z_int : PySem.W.nsIn K mainGlobals "int" = some none)
    (z_abs : PySem.W.nsIn K mainGlobals "abs" = some none)
    (z_max : PySem.W.nsIn K mainGlobals "max" = some none)
    (z_min : PySem.W.nsIn K mainGlobals "min" = some none)
    (z_list : PySem.W.nsIn K mainGlobals "list" = some none)
    (z_range : PySem.W.nsIn K mainGlobals "range" = some none)
    (z_isinstance : PySem.W.nsIn K mainGlobals "isinstance" = some none)
    (z_bool : PySem.W.nsIn K mainGlobals "bool" = some none)
    (z_tuple : PySem.W.nsIn K mainGlobals "tuple" = some none)
    (z_str : PySem.W.nsIn K mainGlobals "str" = some none)
    (z_dict : PySem.W.nsIn K mainGlobals "dict" = some none)
    (z_sorted : PySem.W.nsIn K mainGlobals "sorted" = some none)
    (z_all : PySem.W.nsIn K mainGlobals "all" = some none)
    (z_enumerate : PySem.W.nsIn K mainGlobals "enumerate" = some none) :
    ∃ fd : FuncData, (∀ (s : Shared) (v : Value), BindsTo s fd ⟨[v], []⟩ [("script", v)]) ∧ ∀ base : Heap, K.In base → base.Ns mainGlobals mg → FnOk P w K mg base CX0 7 fa fd ["script"] (spLaw K) := by
  have e := hfa.symm.trans (PySem.W.mg_of X G a15)
  cases e
  have F1 := fun_mk (st := sInteger) l1 c1 k1
  have b1 := F1.binds (ps := ["value"]) fun _ _ _ _ _ _ us hl => match us, hl with | [_], _ => rfl
  have g1 := PySem.W.mg_of X G a1
  have F2 := fun_mk (st := sCount) l2 c2 k2
  have b2 := F2.binds (ps := ["value"]) fun _ _ _ _ _ _ us hl => match us, hl with | [_], _ => rfl
  have g2 := PySem.W.mg_of X G a2
  have F3 := fun_mk (st := sName) l3 c3 k3
  have b3 := F3.binds (ps := ["value"]) fun _ _ _ _ _ _ us hl => match us, hl with | [_], _ => rfl
  have g3 := PySem.W.mg_of X G a3
  have F4 := fun_mk (st := sAre) l4 c4 k4
  have b4 := F4.binds (ps := ["value"]) fun _ _ _ _ _ _ us hl => match us, hl with | [_], _ => rfl
  have g4 := PySem.W.mg_of X G a4
  have F5 := fun_mk (st := sWhole) l5 c5 k5
  have b5 := F5.binds (ps := ["words", "arities"]) fun _ _ _ _ _ _ us hl => match us, hl with | [_, _], _ => rfl
  have g5 := PySem.W.mg_of X G a5
  have F6 := fun_mk (st := sDice) l6 c6 k6
  have b6 := F6.binds (ps := ["script", "spot"]) fun _ _ _ _ _ _ us hl => match us, hl with | [_, _], _ => rfl
  have g6 := PySem.W.mg_of X G a6
  have F7 := fun_mk (st := sRoll) l7 c7 k7
  have b7 := F7.binds (ps := ["dice", "total"]) fun _ _ _ _ _ _ us hl => match us, hl with | [_, _], _ => rfl
  have g7 := PySem.W.mg_of X G a7
  have F8 := fun_mk (st := sPick) l8 c8 k8
  have b8 := F8.binds (ps := ["dice", "items"]) fun _ _ _ _ _ _ us hl => match us, hl with | [_, _], _ => rfl
  have g8 := PySem.W.mg_of X G a8
  have F9 := fun_mk (st := sMixed) l9 c9 k9
  have b9 := F9.binds (ps := ["dice", "items"]) fun _ _ _ _ _ _ us hl => match us, hl with | [_, _], _ => rfl
  have g9 := PySem.W.mg_of X G a9
  have F10 := fun_mk (st := sDrawn) l10 c10 k10
  have b10 := F10.binds (ps := ["dice", "arities", "cap"]) fun _ _ _ _ _ _ us hl => match us, hl with | [_, _, _], _ => rfl
  have g10 := PySem.W.mg_of X G a10
  have F11 := fun_mk (st := sArs) l11 c11 k11
  have b11 := F11.binds (ps := ["dice"]) fun _ _ _ _ _ _ us hl => match us, hl with | [_], _ => rfl
  have g11 := PySem.W.mg_of X G a11
  have F12 := fun_mk (st := sStops) l12 c12 k12
  have b12 := F12.binds (ps := ["arities", "tree"]) fun _ _ _ _ _ _ us hl => match us, hl with | [_, _], _ => rfl
  have g12 := PySem.W.mg_of X G a12
  have F13 := fun_mk (st := sPlace) l13 c13 k13
  have b13 := F13.binds (ps := ["ops", "arities", "tree", "stops", "place"]) fun _ _ _ _ _ _ us hl => match us, hl with | [_, _, _, _, _], _ => rfl
  have g13 := PySem.W.mg_of X G a13
  have F14 := fun_mk (st := sLevels) l14 c14 k14
  have b14 := F14.binds (ps := ["arities", "tree"]) fun _ _ _ _ _ _ us hl => match us, hl with | [_, _], _ => rfl
  have g14 := PySem.W.mg_of X G a14
  have F15 := fun_mk (st := sLaw) l15 c15 k15
  have cl_C : Cls K C := ⟨pg_C, hd_C, po_C, sa_C⟩
  have g_C := PySem.W.mg_of X G n_C
  have F16 := fun_mk (st := mInit) l16 c16 k16
  have b16 := F16.binds (ps := ["self", "arities"]) fun _ _ _ _ _ _ us hl => match us, hl with | [_, _], _ => rfl
  have m16 : Meth K C "__init__" f16 := ⟨a16, i16, k16⟩
  have F17 := fun_mk (st := mIsTree) l17 c17 k17
  have b17 := F17.binds (ps := ["self", "value"]) fun _ _ _ _ _ _ us hl => match us, hl with | [_, _], _ => rfl
  have m17 : Meth K C "is_tree" f17 := ⟨a17, i17, k17⟩
  have F18 := fun_mk (st := mEnd) l18 c18 k18
  have b18 := F18.binds (ps := ["self", "tree", "place"]) fun _ _ _ _ _ _ us hl => match us, hl with | [_, _, _], _ => rfl
  have m18 : Meth K C "end" f18 := ⟨a18, i18, k18⟩
  have F19 := fun_mk (st := mSub) l19 c19 k19
  have b19 := F19.binds (ps := ["self", "tree", "place"]) fun _ _ _ _ _ _ us hl => match us, hl with | [_, _, _], _ => rfl
  have m19 : Meth K C "subtree" f19 := ⟨a19, i19, k19⟩
  have F20 := fun_mk (st := mKids) l20 c20 k20
  have b20 := F20.binds (ps := ["self", "tree", "place"]) fun _ _ _ _ _ _ us hl => match us, hl with | [_, _, _], _ => rfl
  have m20 : Meth K C "children" f20 := ⟨a20, i20, k20⟩
  have F21 := fun_mk (st := mAbove) l21 c21 k21
  have b21 := F21.binds (ps := ["self", "tree", "place"]) fun _ _ _ _ _ _ us hl => match us, hl with | [_, _, _], _ => rfl
  have m21 : Meth K C "above" f21 := ⟨a21, i21, k21⟩
  have F22 := fun_mk (st := mLevels) l22 c22 k22
  have b22 := F22.binds (ps := ["self", "tree"]) fun _ _ _ _ _ _ us hl => match us, hl with | [_, _], _ => rfl
  have m22 : Meth K C "levels" f22 := ⟨a22, i22, k22⟩
  have F23 := fun_mk (st := mChTree) l23 c23 k23
  have b23 := F23.binds (ps := ["self", "tree"]) fun _ _ _ _ _ _ us hl => match us, hl with | [_, _], _ => rfl
  have m23 : Meth K C "_check_tree" f23 := ⟨a23, i23, k23⟩
  have F24 := fun_mk (st := mChPlace) l24 c24 k24
  have b24 := F24.binds (ps := ["self", "tree", "place"]) fun _ _ _ _ _ _ us hl => match us, hl with | [_, _, _], _ => rfl
  have m24 : Meth K C "_check_place" f24 := ⟨a24, i24, k24⟩
  have F25 := fun_mk (st := m_End) l25 c25 k25
  have b25 := F25.binds (ps := ["self", "tree", "place"]) fun _ _ _ _ _ _ us hl => match us, hl with | [_, _, _], _ => rfl
  have m25 : Meth K C "_end" f25 := ⟨a25, i25, k25⟩
  have F26 := fun_mk (st := mParents) l26 c26 k26
  have b26 := F26.binds (ps := ["self", "tree"]) fun _ _ _ _ _ _ us hl => match us, hl with | [_, _], _ => rfl
  have m26 : Meth K C "_parents" f26 := ⟨a26, i26, k26⟩
  have gc_MAX_TREE := PySem.W.mg_of X G cn_MAX_TREE
  have gc_MAX_OPERATORS := PySem.W.mg_of X G cn_MAX_OPERATORS
  have gc_MAX_LETTERS := PySem.W.mg_of X G cn_MAX_LETTERS
  have T : Free mg := ⟨PySem.W.mg_none_of X G z_len, PySem.W.mg_none_of X G z_int, PySem.W.mg_none_of X G z_abs, PySem.W.mg_none_of X G z_max, PySem.W.mg_none_of X G z_min, PySem.W.mg_none_of X G z_list, PySem.W.mg_none_of X G z_range, PySem.W.mg_none_of X G z_isinstance, PySem.W.mg_none_of X G z_bool, PySem.W.mg_none_of X G z_tuple, PySem.W.mg_none_of X G z_str, PySem.W.mg_none_of X G z_dict, PySem.W.mg_none_of X G z_sorted, PySem.W.mg_none_of X G z_all, PySem.W.mg_none_of X G z_enumerate⟩
  exact ⟨PySem.W.fnOf "law" "law" (defArgs sLaw) (defBody sLaw) (defScope sLaw) .none kV15 dc15 pm15 an15 cd15 ct15, fun s v => .of_eq rfl, fun base _ _ => ok_law F15 ⟨⟨⟨cl_C, no0_C, no1_C, no2_C, no3_C, no4_C, no5_C⟩, F5, b5, g5, gc_MAX_TREE, F17, b17, m17, F23, b23, m23, F24, b24, m24, F25, b25, m25, F1, b1, g1, F2, b2, g2⟩, ⟨F18, b18, m18⟩, ⟨F19, b19, m19⟩, ⟨F20, b20, m20⟩, ⟨F21, b21, m21⟩, ⟨F22, b22, m22⟩, ⟨F26, b26, m26⟩⟩ ⟨F6, b6, g6, F11, b11, g11, F10, b10, g10, F12, b12, g12, F14, b14, g14, F13, b13, g13, ⟨mk_C, a16, i16, kc_C⟩, g_C, F16, b16, F4, b4, g4, F3, b3, g3, gc_MAX_LETTERS, gc_MAX_OPERATORS⟩ ⟨F7, b7, g7, F8, b8, g8, F9, b9, g9⟩ T⟩
end Pr
open PySem PySem.W PyProof.Rows
set_option maxHeartbeats 0 in
theorem PySem.Challenge.cw_munchbehind_k04_whole_subtrees_and_level_holds : PySem.Challenge.rw_munchbehind_k04_whole_subtrees_and_level.Holds := by
  w_on; o_law; k_head; (case hw => w_witness2)
  k_fill
  refine L2.walk_of (l := PySem.Challenge.rw_munchbehind_k04_whole_subtrees_and_level) (n := 63) (k := 7) (x := "script") (CX := fun _ => L2.CX0) (sp := fun w => Pr.spLaw _) rfl (by decide) rfl ⟨rfl, by decide, by decide⟩ (fun w h Y => PySem.W.kIn_of Y) ?F (fun _ _ a ns hl _ hS => ⟨a, ns, rfl, hS, hl, fun _ => rfl⟩) (fun _ _ _ _ _ h => h)
  case F =>
    intro w mg fa h KX G hmg
    refine' Pr.all_mk KX G hmg ?a1 ?l1 ?c1 ?k1 ?a2 ?l2 ?c2 ?k2 ?a3 ?l3 ?c3 ?k3 ?a4 ?l4 ?c4 ?k4 ?a5 ?l5 ?c5 ?k5 ?a6 ?l6 ?c6 ?k6 ?a7 ?l7 ?c7 ?k7 ?a8 ?l8 ?c8 ?k8 ?a9 ?l9 ?c9 ?k9 ?a10 ?l10 ?c10 ?k10 ?a11 ?l11 ?c11 ?k11 ?a12 ?l12 ?c12 ?k12 ?a13 ?l13 ?c13 ?k13 ?a14 ?l14 ?c14 ?k14 ?a15 ?l15 ?c15 ?k15 ?n_C ?pg_C ?hd_C ?po_C ?sa_C ?mk_C ?kc_C ?no0_C ?no1_C ?no2_C ?no3_C ?no4_C ?no5_C ?a16 ?i16 ?l16 ?c16 ?k16 ?a17 ?i17 ?l17 ?c17 ?k17 ?a18 ?i18 ?l18 ?c18 ?k18 ?a19 ?i19 ?l19 ?c19 ?k19 ?a20 ?i20 ?l20 ?c20 ?k20 ?a21 ?i21 ?l21 ?c21 ?k21 ?a22 ?i22 ?l22 ?c22 ?k22 ?a23 ?i23 ?l23 ?c23 ?k23 ?a24 ?i24 ?l24 ?c24 ?k24 ?a25 ?i25 ?l25 ?c25 ?k25 ?a26 ?i26 ?l26 ?c26 ?k26 ?cn_MAX_TREE ?cn_MAX_OPERATORS ?cn_MAX_LETTERS ?z_len ?z_int ?z_abs ?z_max ?z_min ?z_list ?z_range ?z_isinstance ?z_bool ?z_tuple ?z_str ?z_dict ?z_sorted ?z_all ?z_enumerate
    (case a1 => k_is)
    (case l1 => k_is)
    (case c1 => k_is)
    (case k1 => k_is)
    (case a2 => k_is)
    (case l2 => k_is)
    (case c2 => k_is)
    (case k2 => k_is)
    (case a3 => k_is)
    (case l3 => k_is)
    (case c3 => k_is)
    (case k3 => k_is)
    (case a4 => k_is)
    (case l4 => k_is)
    (case c4 => k_is)
    (case k4 => k_is)
    (case a5 => k_is)
    (case l5 => k_is)
    (case c5 => k_is)
    (case k5 => k_is)
    (case a6 => k_is)
    (case l6 => k_is)
    (case c6 => k_is)
    (case k6 => k_is)
    (case a7 => k_is)
    (case l7 => k_is)
    (case c7 => k_is)
    (case k7 => k_is)
    (case a8 => k_is)
    (case l8 => k_is)
    (case c8 => k_is)
    (case k8 => k_is)
    (case a9 => k_is)
    (case l9 => k_is)
    (case c9 => k_is)
    (case k9 => k_is)
    (case a10 => k_is)
    (case l10 => k_is)
    (case c10 => k_is)
    (case k10 => k_is)
    (case a11 => k_is)
    (case l11 => k_is)
    (case c11 => k_is)
    (case k11 => k_is)
    (case a12 => k_is)
    (case l12 => k_is)
    (case c12 => k_is)
    (case k12 => k_is)
    (case a13 => k_is)
    (case l13 => k_is)
    (case c13 => k_is)
    (case k13 => k_is)
    (case a14 => k_is)
    (case l14 => k_is)
    (case c14 => k_is)
    (case k14 => k_is)
    (case a15 => k_is)
    (case l15 => k_is)
    (case c15 => k_is)
    (case k15 => k_is)
    (case n_C => k_is)
    (case pg_C => k_is)
    (case hd_C => k_is)
    (case po_C => k_is)
    (case sa_C => k_is)
    (case mk_C => k_is)
    (case kc_C => k_is)
    (case no0_C => k_is)
    (case no1_C => k_is)
    (case no2_C => k_is)
    (case no3_C => k_is)
    (case no4_C => k_is)
    (case no5_C => k_is)
    (case a16 => k_is)
    (case i16 => k_is)
    (case l16 => k_is)
    (case c16 => k_is)
    (case k16 => k_is)
    (case a17 => k_is)
    (case i17 => k_is)
    (case l17 => k_is)
    (case c17 => k_is)
    (case k17 => k_is)
    (case a18 => k_is)
    (case i18 => k_is)
    (case l18 => k_is)
    (case c18 => k_is)
    (case k18 => k_is)
    (case a19 => k_is)
    (case i19 => k_is)
    (case l19 => k_is)
    (case c19 => k_is)
    (case k19 => k_is)
    (case a20 => k_is)
    (case i20 => k_is)
    (case l20 => k_is)
    (case c20 => k_is)
    (case k20 => k_is)
    (case a21 => k_is)
    (case i21 => k_is)
    (case l21 => k_is)
    (case c21 => k_is)
    (case k21 => k_is)
    (case a22 => k_is)
    (case i22 => k_is)
    (case l22 => k_is)
    (case c22 => k_is)
    (case k22 => k_is)
    (case a23 => k_is)
    (case i23 => k_is)
    (case l23 => k_is)
    (case c23 => k_is)
    (case k23 => k_is)
    (case a24 => k_is)
    (case i24 => k_is)
    (case l24 => k_is)
    (case c24 => k_is)
    (case k24 => k_is)
    (case a25 => k_is)
    (case i25 => k_is)
    (case l25 => k_is)
    (case c25 => k_is)
    (case k25 => k_is)
    (case a26 => k_is)
    (case i26 => k_is)
    (case l26 => k_is)
    (case c26 => k_is)
    (case k26 => k_is)
    (case cn_MAX_TREE => k_is)
    (case cn_MAX_OPERATORS => k_is)
    (case cn_MAX_LETTERS => k_is)
    (case z_len => k_is)
    (case z_int => k_is)
    (case z_abs => k_is)
    (case z_max => k_is)
    (case z_min => k_is)
    (case z_list => k_is)
    (case z_range => k_is)
    (case z_isinstance => k_is)
    (case z_bool => k_is)
    (case z_tuple => k_is)
    (case z_str => k_is)
    (case z_dict => k_is)
    (case z_sorted => k_is)
    (case z_all => k_is)
    (case z_enumerate => k_is)
