import PyProof.Rows.All
import Wide.All
import OpenK.AllK
import Wide.FinOn
import PyProof.EqAt
import PyProof.EqKinds
import PyProof.TupleCall
import KE.KExcInit
import KE.OsGo
import HandS.ForMost
import HandS.ForExc
import HandS.Wide
import HandS.IsInst
import HandS.StrMore
import PyProof.ReprReads
import PyProof.ReprRoads
import PyProof.CallFns
import PyProof.ListStr
import PyProof.StrLawsRepr
import HandS.TupMul
import HandS.TupAny
import HandS.More
import KE.KExcIs
import HandS.ExcValue
import HandS.ExcIs
import HandS.ListItems
import HandS.Small
import HandS.DictComp
import HandS.FStr
import HandS.WordsDict
import HandS.Property
import HandS.Iter
import HandS.Walk
import HandS.SetFor
import HandS.Style
import HandS.Strs
import HandS.Star
import HandS.MethStar
import PySem.Challenge.RW_munchbehind_k05_whole_trees_cut_and_fill
set_option Elab.async false
set_option linter.all false
set_option maxRecDepth 100000
set_option maxHeartbeats 2000000
/-! ### defs that are called where nothing is being shown (repr): what HandS says of a def, with that one fact more -/
namespace Gd
open PySem PySem.Spec PyProof.Rows L2
/-- a def's promise, kept wherever no repr is under way -/
structure FnG (P : Program) (w : World) (K : PySem.W.Frag) (mg : Str → Option Value) (base : Heap) (CX : CXT) (k : Nat) (f : Addr) (fd : FuncData) (ps : List Str) (sp : Sp) : Prop where
  len : ∀ vs H Q E, sp vs H Q E → vs.length = ps.length
  run : ∀ (A : Around) (outer : List Env) (s : Shared) (H : Hp) (args : Args) (us : List Value) (vs : List V) (Q : VK) (E : XK), Room k A → A.guards = some [] → Env0 P w K mg base A outer s H → BindsTo s fd args (ps.zip us) → Vals vs us → sp vs H Q E →
    codeAny (model P w) A (.call (.ref f) args) (CR CX outer P w H s Q E) s
section
variable {P : Program} {w : World} {K : PySem.W.Frag} {mg : Str → Option Value} {base : Heap} {CX : CXT} {k : Nat} {f : Addr} {fd : FuncData} {ps : List Str} {sp : Sp}
/-- out of its body -/
theorem FnG.of_body {qual : Str} {st : Stmt} {x : Str} {N : List Str} (F : Fun K x qual st f fd) (S : FnScope N ps (defScope st)) (len : ∀ vs H Q E, sp vs H Q E → vs.length = ps.length)
    (hbody : ∀ (cdv : Value) (A : Around) (outer : List Env) (s : Shared) (H : Hp) (vs : List V) (Q : VK) (E : XK), Room k (A.deeper (envOfC qual (defScope st) s.heap.objs.size f cdv)) →
      (A.deeper (envOfC qual (defScope st) s.heap.objs.size f cdv)).guards = some [] → sp vs H Q E →
      ∃ t, PSs (cxOf CX P w K mg base N qual (defScope st) f cdv A outer s H E) (defBody st) t ∧ t { nx := fun _ H' => Q .non H', rt := Q } (start N vs) H) : FnG P w K mg base CX (k + 1) f fd ps sp := by
  obtain ⟨oc, od, kV, doc, pm, an, cdv, ct, osl, rfl, lk, hcd⟩ := F.ex
  constructor
  · exact len
  intro A outer s H args us vs Q E room hg env bind rel want
  have size := len _ _ _ _ want
  have keep : ∀ b o, base.get? b = some o → s.heap.get? b = some o := fun b o e => (env.bs b o e).1
  have KX := env.mod.kin.keeps keep
  have lim := env.mod.nolimit.keeps keep
  have slots : ∀ y ∈ ps.zip us, (defScope st).names.lookup y.1 = some .local ∨ ((defScope st).names.lookup y.1 = some .cell ∧ ((cellsFrom (s.heap.objs.size + 1) (defScope st).names []).lookup y.1).isSome = true) := by
    rintro ⟨n, v⟩ hy
    exact (S.par n (List.of_mem_zip hy).1).imp id fun q => ⟨q, PySem.W.cellsFrom_some _ _ _ (.inl q)⟩
  refine codeAny_call_function room.depth (KX _ _ lk) rfl S.co S.gen rfl (PySem.W.codeRec_of KX hcd) (bind _ _ _ _ (wpAny_newFunctionEnv_cells S.kind slots fun env1 he s1 x => ?_))
  subst he
  refine ⟨lim.keeps x.toInCall.keep, codeAny_func ?_⟩
  have guard : (A.deeper (envOfC qual (defScope st) s.heap.objs.size f cdv)).guards = some [] := hg
  obtain ⟨t, ht, hq⟩ := hbody cdv A outer s H vs Q E (room.deeper _) guard want
  have I : Inv (cxOf CX P w K mg base N qual (defScope st) f cdv A outer s H E) [] (start N vs) H s1 := inv_start S room.hd env size rel x
  refine wpAny_mono (ht.run [] s1 (start N vs) H _ I hq) (fun fl s' hs => ?_) fun e s' hs => hs
  cases fl with
  | ret u =>
    obtain ⟨v, σ', H', J, rv, q⟩ := hs
    exact ⟨v, H', J.os, J.bare, J.base, J.hok, rv, q⟩
  | next =>
    obtain ⟨σ', H', J, q⟩ := hs
    exact ⟨V.non, H', J.os, J.bare, J.base, J.hok, rfl, q⟩
  | brk => exact (let ⟨_, _, _, q⟩ := hs; q : False).elim
  | cont => exact (let ⟨_, _, _, q⟩ := hs; q : False).elim
/-- the same, where no exception leaves it -/
theorem FnG.ok {qual : Str} {st : Stmt} {x : Str} {N : List Str} (F : Fun K x qual st f fd) (S : FnScope N ps (defScope st)) (len : ∀ vs H Q E, sp vs H Q E → vs.length = ps.length)
    (hbody : ∀ (cdv : Value) (A : Around) (outer : List Env) (s : Shared) (H : Hp) (vs : List V) (Q : VK) (E : XK), Room k (A.deeper (envOfC qual (defScope st) s.heap.objs.size f cdv)) →
      (A.deeper (envOfC qual (defScope st) s.heap.objs.size f cdv)).guards = some [] → sp vs H Q E →
      ∃ t, PSs (cxOf CX0 P w K mg base N qual (defScope st) f cdv A outer s H E).nox (defBody st) t ∧ t { nx := fun _ H' => Q .non H', rt := Q } (start N vs) H) : FnG P w K mg base CX0 (k + 1) f fd ps sp :=
  FnG.of_body F S len fun cdv A outer s H vs Q E hr hg h => let ⟨t, a, b⟩ := hbody cdv A outer s H vs Q E hr hg h; ⟨t, a.nox, b⟩
end
section
variable {X : Cx} {CX : CXT} {k : Nat} {f : Addr} {fd : FuncData} {ps : List Str} {sp : Sp} {E : XK} {x : Str} {p pos : Pos} {e : Expr} {es : List Expr} {t : TA}
/-- f(..) of such a def -/
theorem pe_callG (F : FnG X.prog X.w X.K X.mg X.base CX k f fd ps sp) (hr : Room k X.A) (gd : X.A.guards = some []) (hg : Gl X x) (hm : X.mg x = some (.ref f)) (hk : PySem.W.keepIn X.K (.ref f) = true) (hb : Binds X.K fd ps []) (hx : Passes CX X E)
    (ha : PA X (e :: es) t) (hdb : (x == ("__debug__" : Str)) = false := by decide) (he : starEach (e :: es) X.env = (false, eval e X.env) :: starEach es X.env := by rfl) (hpl : (backTo pos (starEach es X.env)).any (·.1) = false := by rfl) :
    PE X (.Call (.Name x p) (e :: es) [] pos) (tCall sp [] E t) := by
  refine ⟨fun pins s σ H Q I h => ?_⟩
  refine wpAny_Call_Name_kw (ld_glob I hg hm ?_ hdb)
  refine PySem.W.callWith_K (h₀ := X.base) I.ok.mod.kin hk (thn (ha.run pos pins s σ H _ I h) fun us s1 ⟨vs, H1, I1, r, q⟩ => ⟨I1.kIn, ?_⟩) he hpl
  have q' : sp vs H1 Q E := by
    have z : sp (vs ++ []) H1 Q E := q
    rw [List.append_nil] at z
    exact z
  have hl : us.length = ps.length := by rw [← r.length]; exact F.len _ _ _ _ q'
  have b := hb s1 us I1.kIn (by rw [List.append_nil]; exact hl)
  rw [List.append_nil] at b
  refine wpAny_call (codeAny_mono (F.run X.A X.stack s1 H1 ⟨us, []⟩ us vs Q E hr gd I1.env0 b r q') fun r' s' hq => ?_)
  cases r' with
  | error z => exact hx pins σ H1 s1 z s' I1 hq
  | ok fl =>
    cases fl with
    | ret u => exact I1.after hq
    | next => exact False.elim hq
    | brk => exact False.elim hq
    | cont => exact False.elim hq
end
/-- the script as the one thing that is tracked: at a, locked, where the written part has it not -/
def scriptH (K : PySem.W.Frag) (a : Addr) (o : Obj) (xs : List V) : Hp := fun b => if b = a ∧ K.lookup a = none then some (.frz o (.lst xs)) else none
theorem scriptH_some {K : PySem.W.Frag} {a b : Addr} {o : Obj} {xs : List V} {u : HO} (h : scriptH K a o xs b = some u) : b = a ∧ K.lookup a = none ∧ u = .frz o (.lst xs) := by
  unfold scriptH at h
  by_cases c : b = a ∧ K.lookup a = none
  · rw [if_pos c] at h
    exact ⟨c.1, c.2, (Option.some.inj h).symm⟩
  · rw [if_neg c] at h
    cases h
/-- the law's own call, from a promise that is kept where nothing is being shown -/
theorem law_callG {P : Program} {w : World} {K : PySem.W.Frag} {mg mb : Str → Option Value} {CX : CXT} {k : Nat} {fa a : Addr} {fd : FuncData} {x : Str} {sp : Sp} {s : Shared} {vs : List Value} {ns : List Int}
    (KX : K.In s.heap) (hns : s.heap.Ns mainGlobals mg) (hb : s.heap.Ns builtinsNs mb) (hbb : ∀ x : Str, x ≠ "__name__" → mb x = bootBuiltins x) (hlim : s.heap.NoLimit) (hg : s.gens = #[])
    (ha : s.heap.get? a = some { cls := .type "list", data := .seq vs.toArray }) (hi : IntsAre vs ns) (hl : ns.length ≤ sizeLine) (hr : Room k callerA)
    (F : ∀ base : Heap, K.In base → base.Ns mainGlobals mg → FnG P w K mg base CX k fa fd [x] sp) (hbind : ∀ (s : Shared) (u : Value), BindsTo s fd ⟨[u], []⟩ [(x, u)])
    (hsp : ∀ H : Hp, Only H → SqL K H a (ns.map V.int) → sp [.ref a] H (fun v _ => v = .bl true) fun _ _ _ => False)
    (hCX : ∀ H e s', CX [] H s (fun _ _ _ => False) e s' → False) :
    codeAny (model P w) callerA (.call (.ref fa) ⟨[.ref a], []⟩) (fun r s' => r = .ok (.ret (.bool true)) ∧ OldK s.heap s'.heap ∧ s'.os = s.os ∧ AllBare s'.gens) s := by
  have rv := vals_ints hi
  have lenV := hi.length
  let O : Obj := { cls := .type "list", data := .seq vs.toArray }
  let H : Hp := scriptH K a O (ns.map V.int)
  have only : Only H := fun b => by
    cases q : H b with
    | none => exact .inl rfl
    | some u => exact .inr ⟨O, ns.map V.int, by rw [(scriptH_some q).2.2]⟩
  have hS : SqL K H a (ns.map V.int) := by
    cases hk : K.lookup a with
    | none => exact .inl (.inr ⟨O, if_pos ⟨rfl, hk⟩⟩)
    | some o =>
      have e := KX a o hk
      rw [ha] at e
      cases e
      exact .inr ⟨_, vs.toArray, _, hk, rfl, rfl, rfl, by rw [List.size_toArray, lenV]; exact hl, by simpa using rv⟩
  have hok : HOk P w H s.heap := fun b u q => by
    obtain ⟨e1, _, e3⟩ := scriptH_some q
    rw [e1, e3]
    exact ⟨ha, by rw [List.length_map]; exact hl, vs, _, rv, ha⟩
  have notDict : ∀ {b : Addr} {o : Obj} {es : Array DictEntry} {ep : Nat}, s.heap.get? b = some o → o.data = .dict es ep → H b = none := fun {b o es ep} e d => by
    cases q : H b with
    | none => rfl
    | some u =>
      rw [(scriptH_some q).1, ha] at e
      cases e
      cases (show Data.seq vs.toArray _ = Data.dict es ep from d)
  have nsK : ∀ {b : Addr} {m : Str → Option Value}, s.heap.Ns b m → (hidT s.heap H).Ns b m := fun {b m} ⟨o, es, ep, e, d, r⟩ => ⟨o, es, ep, hidT_get e (notDict e d), d, r⟩
  have inK : K.In (hidT s.heap H) := fun b o e => hidT_get (KX b o e) (by
    cases q : H b with
    | none => rfl
    | some u =>
      obtain ⟨e1, e2, _⟩ := scriptH_some q
      rw [e1, e2] at e
      cases e)
  obtain ⟨mc, l1, l2⟩ := hlim
  have env : Env0 P w K mg (hidT s.heap H) callerA [] s H :=
    ⟨rfl, ⟨inK, nsK hns, ⟨mb, nsK hb, hbb⟩, ⟨mc, nsK l1, l2⟩⟩, fun b o e => of_hidT e, Nat.le_of_eq (hidT_size _ _), trivial, fun b m => absurd (show b ∈ ([] : List Addr) from m) (by simp), hok, .of_eq hg⟩
  refine codeAny_mono ((F _ inK (nsK hns)).run callerA [] s H ⟨[.ref a], []⟩ [.ref a] [.ref a] _ _ hr rfl env (hbind s (.ref a)) (.cons rfl .nil) (hsp H only hS)) fun r s' h => ?_
  cases r with
  | error e => exact (hCX H e s' h).elim
  | ok fl =>
    cases fl with
    | next => exact False.elim h
    | brk => exact False.elim h
    | cont => exact False.elim h
    | ret u =>
      obtain ⟨v, H', os, bare, un, hok', r', q⟩ := h
      obtain rfl : v = .bl true := q
      obtain rfl : u = Value.bool true := r'
      refine ⟨rfl, OldK.of_keep fun b o e => ?_, os, bare⟩
      cases q : H b with
      | none => exact un.keep b o e q (fun z => absurd (show b ∈ ([] : List Addr) from z) (by simp)) (by simp)
      | some u =>
        obtain ⟨_, _, eu⟩ := scriptH_some q
        rw [eu] at q
        have e1 := (hok b _ q).1
        have e2 := (hok' b _ (un.frzs b O _ q)).1
        rw [e] at e1
        cases e1
        exact e2
theorem walk_ofG {l : PySem.W.OpenLaw} {n k : Nat} {q : Program} {loose : List Str} {XP : (Str → Option Value) → Heap → Prop} {YP : World → Heap → Prop} {d : DefRec} {K : Params → PySem.W.Frag} {CX : World → CXT} {sp : World → Sp} {x : Str}
    (hn : l.most = some n) (hn2 : n ≤ sizeLine) (hdf : d.params.defaults = []) (hr : Room k callerA)
    (hY : ∀ (w : World) (h : Heap), YP w h → (K w.params).In h)
    (F : ∀ (w : World) (mg : Str → Option Value) (fa : Addr) (h : Heap), (K w.params).In h → h.Ns mainGlobals mg → mg d.name = some (.ref fa) →
      ∃ fd : FuncData, (∀ (s : Shared) (u : Value), BindsTo s fd ⟨[u], []⟩ [(x, u)]) ∧
        ∀ base : Heap, (K w.params).In base → base.Ns mainGlobals mg → FnG l.prog w (K w.params) mg base (CX w) k fa fd [x] (sp w))
    (hsp : ∀ (w : World) (H : Hp) (a : Addr) (ns : List Int), ns.length ≤ n → Only H → SqL (K w.params) H a (ns.map V.int) → sp w [.ref a] H (fun v _ => v = .bl true) fun _ _ _ => False)
    (hCX : ∀ (w : World) (H : Hp) (s : Shared) (e : Value) (s' : Shared), CX w [] H s (fun _ _ _ => False) e s' → False) :
    PySem.W.WalkO q loose XP YP l.row.toRowW d [] (fun f vs => PySem.call f vs) := by
  refine Att.attach_call hn hdf fun w s₀ s₁ mg mb fa o pm cd doc a vs ns G Y ho hd hcd hmg hobj hints hlen hg => ?_
  obtain ⟨fd, hb, hF⟩ := F w mg fa _ (hY w _ Y) G.T.g hmg
  exact law_callG (hY w _ Y) G.T.g G.T.b G.T.builtins G.T.nolimit hg hobj hints (Nat.le_trans hlen hn2) hr hF hb (fun H hO hS => hsp w H a ns hlen hO hS) fun H e s' => hCX w H s₁ e s'
end Gd
/-! ### repr of what is tracked: None, bools, ints, texts, lists, tuples and dicts of them -/
namespace Gd
open PySem PySem.Spec PyProof.Rows L2 PySem.Builtin.List
def keyText : Key → Str
  | .inl i => ((toString i : String) : Str)
  | .inr x => reprText x
def keyFits : Key → Prop
  | .inl i => i.natAbs.log2 < 1920
  | .inr x => (reprText x).length ≤ sizeLine
/-- a plain value and its text -/
inductive Sc : V → Str → Prop where
  | non : Sc .non "None"
  | bl (b : Bool) : Sc (.bl b) (if b then "True" else "False")
  | int (i : Int) (h : i.natAbs.log2 < 1920) : Sc (.int i) ((toString i : String) : Str)
  | str (x : Str) (h : (reprText x).length ≤ sizeLine) : Sc (.str x) (reprText x)
/-- v is shown as t: nested at most n deep -/
def Sh (H : Hp) : Nat → V → Str → Prop
  | 0, v, t => Sc v t
  | n + 1, v, t => Sc v t ∨ (∃ a xs ts, v = .ref a ∧ H a = some (.lst xs) ∧ Paired (Sh H n) xs ts ∧ t = listText ts) ∨
      (∃ a xs ts, v = .ref a ∧ H a = some (.tup xs) ∧ Paired (Sh H n) xs ts ∧ t = tupleText ts) ∨
      ∃ a kvs ts, v = .ref a ∧ H a = some (.dK kvs) ∧ Paired (fun (p : Key × V) t => keyFits p.1 ∧ Sh H n p.2 t) kvs ts ∧ t = dictText (List.zipWith (fun (p : Key × V) t => keyText p.1 ++ ": " ++ t) kvs ts)
theorem Sh.sc {H : Hp} {n : Nat} {v : V} {t : Str} (h : Sc v t) : Sh H n v t := by
  cases n with
  | zero => exact h
  | succ n => exact .inl h
theorem Sh.lst {H : Hp} {n : Nat} {a : Addr} {xs : List V} {ts : List Str} (e : H a = some (.lst xs)) (h : Paired (Sh H n) xs ts) : Sh H (n + 1) (.ref a) (listText ts) := .inr (.inl ⟨a, xs, ts, rfl, e, h, rfl⟩)
theorem Sh.tup {H : Hp} {n : Nat} {a : Addr} {xs : List V} {ts : List Str} (e : H a = some (.tup xs)) (h : Paired (Sh H n) xs ts) : Sh H (n + 1) (.ref a) (tupleText ts) := .inr (.inr (.inl ⟨a, xs, ts, rfl, e, h, rfl⟩))
theorem Sh.dK {H : Hp} {n : Nat} {a : Addr} {kvs : List (Key × V)} {ts : List Str} (e : H a = some (.dK kvs)) (h : Paired (fun (p : Key × V) t => keyFits p.1 ∧ Sh H n p.2 t) kvs ts) :
    Sh H (n + 1) (.ref a) (dictText (List.zipWith (fun (p : Key × V) t => keyText p.1 ++ ": " ++ t) kvs ts)) := .inr (.inr (.inr ⟨a, kvs, ts, rfl, e, h, rfl⟩))
theorem Sc.det {v : V} {t t' : Str} (h : Sc v t) (h' : Sc v t') : t = t' := by
  cases h <;> cases h' <;> rfl
theorem Sc.noRef {a : Addr} {t : Str} (h : Sc (.ref a) t) : False := nomatch h
theorem paired_det {α : Type} {F G : α → Str → Prop} (k : ∀ a t t', F a t → G a t' → t = t') : ∀ {xs : List α} {ts ts' : List Str}, Paired F xs ts → Paired G xs ts' → ts = ts'
  | _, _, _, .nil, .nil => rfl
  | _, _, _, .cons h r, .cons h' r' => by rw [k _ _ _ h h', paired_det k r r']
/-- the text is one -/
theorem Sh.det {H : Hp} : ∀ (n : Nat) (v : V) (t : Str), Sh H n v t → ∀ (m : Nat) (t' : Str), Sh H m v t' → t = t'
  | 0, v, t, h, 0, t', h' => Sc.det h h'
  | 0, v, t, h, m + 1, t', h' => by
    rcases h' with h' | ⟨a, _, _, rfl, _⟩ | ⟨a, _, _, rfl, _⟩ | ⟨a, _, _, rfl, _⟩
    · exact Sc.det h h'
    all_goals exact (Sc.noRef h).elim
  | n + 1, v, t, h, 0, t', h' => by
    rcases h with h | ⟨a, _, _, rfl, _⟩ | ⟨a, _, _, rfl, _⟩ | ⟨a, _, _, rfl, _⟩
    · exact Sc.det h h'
    all_goals exact (Sc.noRef h').elim
  | n + 1, v, t, h, m + 1, t', h' => by
    rcases h with h | ⟨a, xs, ts, rfl, e, p, rfl⟩ | ⟨a, xs, ts, rfl, e, p, rfl⟩ | ⟨a, xs, ts, rfl, e, p, rfl⟩
    · rcases h' with h' | ⟨a, _, _, rfl, _⟩ | ⟨a, _, _, rfl, _⟩ | ⟨a, _, _, rfl, _⟩
      · exact Sc.det h h'
      all_goals exact (Sc.noRef h).elim
    · rcases h' with h' | ⟨b, xs', ts', eb, e', p', rfl⟩ | ⟨b, xs', ts', eb, e', p', rfl⟩ | ⟨b, xs', ts', eb, e', p', rfl⟩
      · exact (Sc.noRef h').elim
      all_goals
        cases eb
        rw [e] at e'
        cases e'
      rw [paired_det (fun a t t' q q' => Sh.det n a t q m t' q') p p']
    · rcases h' with h' | ⟨b, xs', ts', eb, e', p', rfl⟩ | ⟨b, xs', ts', eb, e', p', rfl⟩ | ⟨b, xs', ts', eb, e', p', rfl⟩
      · exact (Sc.noRef h').elim
      all_goals
        cases eb
        rw [e] at e'
        cases e'
      rw [paired_det (fun a t t' q q' => Sh.det n a t q m t' q') p p']
    · rcases h' with h' | ⟨b, xs', ts', eb, e', p', rfl⟩ | ⟨b, xs', ts', eb, e', p', rfl⟩ | ⟨b, xs', ts', eb, e', p', rfl⟩
      · exact (Sc.noRef h').elim
      all_goals
        cases eb
        rw [e] at e'
        cases e'
      rw [paired_det (fun a t t' q q' => Sh.det n a.2 t q.2 m t' q'.2) p p']
theorem Sh.keep {H H' : Hp} (k : ∀ a o, H a = some o → H' a = some o) : ∀ (n : Nat) (v : V) (t : Str), Sh H n v t → Sh H' n v t
  | 0, _, _, h => h
  | n + 1, _, _, h => by
    rcases h with h | ⟨a, xs, ts, rfl, e, p, rfl⟩ | ⟨a, xs, ts, rfl, e, p, rfl⟩ | ⟨a, xs, ts, rfl, e, p, rfl⟩
    · exact .inl h
    · exact Sh.lst (k _ _ e) (L2.Paired.mapP p fun x t q => Sh.keep k n x t q)
    · exact Sh.tup (k _ _ e) (L2.Paired.mapP p fun x t q => Sh.keep k n x t q)
    · exact Sh.dK (k _ _ e) (L2.Paired.mapP p fun x t q => ⟨q.1, Sh.keep k n x.2 t q.2⟩)
section
variable {P : Program} {w : World} {H : Hp} {h : Heap}
def Below (H : Hp) (n : Nat) (b : Addr) : Prop := ∃ m, m ≤ n ∧ ∃ t, Sh H m (.ref b) t
theorem all_repr {n : Nat} (ih : ∀ (v : V) (t : Str) (u : Value), Sh H n v t → RelV v u → ∃ bs : List Addr, (∀ b ∈ bs, Below H n b) ∧ ReprK P w bs h n u t) :
    ∀ {xs : List V} {ts : List Str} {us : List Value}, Paired (Sh H n) xs ts → Vals xs us → ∃ bs : List Addr, (∀ b ∈ bs, Below H n b) ∧ ReprAllK P w bs h n us ts
  | _, _, _, .nil, .nil => ⟨[], (fun _ m => nomatch m), .nil⟩
  | _, _, _, .cons p q, .cons r s => by
    obtain ⟨b1, h1, k1⟩ := ih _ _ _ p r
    obtain ⟨b2, h2, k2⟩ := all_repr ih q s
    exact ⟨b1 ++ b2, fun b m => (List.mem_append.mp m).elim (h1 b) (h2 b), .cons (k1.more fun b m => List.mem_append_left _ m) (k2.more_le (fun b m => List.mem_append_right _ m) (Nat.le_refl _))⟩
theorem key_repr {k : Key} {v : Value} (e : keyIs k v = true) (f : keyFits k) (bs : List Addr) (n : Nat) : ReprK P w bs h n v (keyText k) := by
  rcases keyIs_shape e with ⟨i, t, rfl, rfl⟩ | ⟨x, t, rfl, rfl⟩
  · exact .of_is (ReprIs.int t f) _ _ _
  · exact .of_is (ReprIs.str x t f) _ _ _
theorem ReprEntriesK.wider {as as' : List Addr} {d : Nat} (sub : ∀ b ∈ as, b ∈ as') : ∀ {l : List DictEntry} {ts : List Str}, ReprEntriesK P w as h d l ts → ReprEntriesK P w as' h d l ts
  | _, _, .nil => .nil
  | _, _, .cons a b r => .cons (a.more sub) (b.more sub) (ReprEntriesK.wider sub r)
theorem entries_repr {n : Nat} (ih : ∀ (v : V) (t : Str) (u : Value), Sh H n v t → RelV v u → ∃ bs : List Addr, (∀ b ∈ bs, Below H n b) ∧ ReprK P w bs h n u t) :
    ∀ {kvs : List (Key × V)} {ts : List Str} {ws : List (Key × Value)} {es : List DictEntry}, Paired (fun (p : Key × V) t => keyFits p.1 ∧ Sh H n p.2 t) kvs ts → KV kvs ws → Pairs (mixKind P w) es ws →
      ∃ bs : List Addr, (∀ b ∈ bs, Below H n b) ∧ ReprEntriesK P w bs h n es (List.zipWith (fun (p : Key × V) t => keyText p.1 ++ ": " ++ t) kvs ts)
  | _, _, _, _, .nil, .nil, .nil => ⟨[], (fun _ m => nomatch m), .nil⟩
  | _, _, _, _, .cons p q, .cons r s, .cons (e := e) a b c => by
    obtain ⟨b1, h1, k1⟩ := ih _ _ _ p.2 r.2
    obtain ⟨b2, h2, k2⟩ := entries_repr ih q s c
    refine ⟨b1 ++ b2, fun b m => (List.mem_append.mp m).elim (h1 b) (h2 b), ?_⟩
    refine .cons (key_repr (by rw [r.1]; exact a) p.1 _ _) ?_ (ReprEntriesK.wider (fun b m => List.mem_append_right _ m) k2)
    rw [b]
    exact k1.more fun b m => List.mem_append_left _ m
/-- whatever is tracked and is shown as t gives t to repr -/
theorem repr_sh (ok : HOk P w H h) (n : Nat) : ∀ (v : V) (t : Str) (u : Value), Sh H n v t → RelV v u → ∃ bs : List Addr, (∀ b ∈ bs, Below H n b) ∧ ReprK P w bs h n u t := by
  induction n using Nat.strongRecOn with
  | ind n IH =>
    intro v t u hv r
    have plain : Sc v t → ∃ bs : List Addr, (∀ b ∈ bs, Below H n b) ∧ ReprK P w bs h n u t := fun c => by
      refine ⟨[], (fun _ m => nomatch m), ?_⟩
      cases c with
      | non =>
        cases (show u = Value.none from r)
        exact .of_is ReprIs.none _ _ _
      | bl b =>
        cases (show u = Value.bool b from r)
        exact .of_is (ReprIs.bool b) _ _ _
      | int i f =>
        obtain ⟨t, rfl⟩ := (show ∃ t, u = Value.int i t from r)
        exact .of_is (ReprIs.int t f) _ _ _
      | str x f =>
        obtain ⟨t, rfl⟩ := (show ∃ t, u = Value.str x t from r)
        exact .of_is (ReprIs.str x t f) _ _ _
    cases n with
    | zero => exact plain hv
    | succ n =>
      have ih := IH n (Nat.lt_succ_self n)
      -- a ring can't be: what is below has the same text at a lower level
      have ring : ∀ (a : Addr) (bs : List Addr), v = .ref a → (∀ b ∈ bs, Below H n b) → a ∈ bs → ∃ bs : List Addr, (∀ b ∈ bs, Below H (n + 1) b) ∧ ReprK P w bs h (n + 1) u t := fun a bs e hb m => by
        obtain ⟨m, hm, t', ht⟩ := hb a m
        subst e
        have et : t = t' := Sh.det _ _ _ hv _ _ ht
        subst et
        obtain ⟨cs, hc, k⟩ := IH m (by omega) _ _ _ ht r
        exact ⟨cs, fun b q => let ⟨l, hl, x⟩ := hc b q; ⟨l, by omega, x⟩, k.level_le (by omega)⟩
      rcases id hv with c | ⟨a, xs, ts, rfl, e, p, rfl⟩ | ⟨a, xs, ts, rfl, e, p, rfl⟩ | ⟨a, kvs, ts, rfl, e, p, rfl⟩
      · exact plain c
      · cases (show u = Value.ref a from r)
        obtain ⟨_, its, m, rv, ho⟩ := (show ObjOk P w H h a (.lst xs) from ok a _ e)
        obtain ⟨bs, hb, hk⟩ := all_repr ih p rv
        by_cases c : a ∈ bs
        · exact ring a bs rfl hb c
        · refine ⟨a :: bs, fun b q => ?_, ?_⟩
          · rcases List.mem_cons.mp q with rfl | q
            · exact ⟨n + 1, Nat.le_refl _, _, hv⟩
            · obtain ⟨l, hl, x⟩ := hb b q
              exact ⟨l, by omega, x⟩
          · cases its with
            | nil =>
              cases hk
              rw [listText_nil]
              exact ReprK.listEmpty ho rfl rfl
            | cons x l => exact ReprK.list ho rfl rfl c (by simpa using hk.length_eq) (fun i y q => hk.item i y (by simpa using q))
      · cases (show u = Value.ref a from r)
        obtain ⟨_, its, rv, o, ho, hc, m, hd⟩ := (show ObjOk P w H h a (.tup xs) from ok a _ e)
        obtain ⟨bs, hb, hk⟩ := all_repr ih p rv
        by_cases c : a ∈ bs
        · exact ring a bs rfl hb c
        · refine ⟨a :: bs, fun b q => ?_, ReprK.tuple ho hc hd c (by simpa using hk)⟩
          rcases List.mem_cons.mp q with rfl | q
          · exact ⟨n + 1, Nat.le_refl _, _, hv⟩
          · obtain ⟨l, hl, x⟩ := hb b q
            exact ⟨l, by omega, x⟩
      · cases (show u = Value.ref a from r)
        obtain ⟨_, ys, ws, rv, o, es, ep, ho, hc, hd, _, hp, _⟩ := (show ObjOk P w H h a (.dK kvs) from ok a _ e)
        obtain ⟨bs, hb, hk⟩ := entries_repr ih p rv hp
        by_cases c : a ∈ bs
        · exact ring a bs rfl hb c
        · refine ⟨a :: bs, fun b q => ?_, ReprK.dict ho hc.1 hd ys c hk⟩
          rcases List.mem_cons.mp q with rfl | q
          · exact ⟨n + 1, Nat.le_refl _, _, hv⟩
          · obtain ⟨l, hl, x⟩ := hb b q
            exact ⟨l, by omega, x⟩
/-- repr(v) -/
theorem call_sh (ok : HOk P w H h) (n : Nat) : ∀ (v : V) (t : Str) (u : Value), Sh H n v t → RelV v u → t.length ≤ sizeLine → ∀ (A : Around) (E : Value → Shared → Prop) (s : Shared) (Q : Value → Shared → Prop), A.guards = some [] → A.units + (n + 1) < cLine → s.heap = h →
    (∀ h' z tk, (∀ b o, s.heap.get? b = some o → h'.get? b = some o) → Q (.str t z) { s with heap := h', toks := tk }) → wpAny (model P w) A (call (.builtin "repr") [u]) Q E s := by
  induction n using Nat.strongRecOn with
  | ind n IH =>
    intro v t u hv r hz A E s Q hg hu eh hQ
    subst eh
    have plain : Sc v t → wpAny (model P w) A (call (.builtin "repr") [u]) Q E s := fun c => by
      cases c with
      | non =>
        cases (show u = Value.none from r)
        exact PySem.P.repr_of_none (hQ s.heap _ _ fun _ _ e => e)
      | bl b =>
        cases (show u = Value.bool b from r)
        exact PySem.P.repr_of_bool (by
          have q := hQ s.heap s.toks (s.toks + 1) fun _ _ e => e
          cases b <;> exact q)
      | int i f =>
        obtain ⟨t, rfl⟩ := (show ∃ t, u = Value.int i t from r)
        exact PySem.P.repr_of_int f (hQ s.heap _ _ fun _ _ e => e)
      | str x f =>
        obtain ⟨t, rfl⟩ := (show ∃ t, u = Value.str x t from r)
        exact PySem.P.repr_of_str (hQ s.heap _ _ fun _ _ e => e) f
    cases n with
    | zero => exact plain hv
    | succ n =>
      have ih := fun v t u => repr_sh (P := P) (w := w) ok n v t u
      have ring : ∀ (a : Addr) (bs : List Addr), v = .ref a → (∀ b ∈ bs, Below H n b) → a ∈ bs → wpAny (model P w) A (call (.builtin "repr") [u]) Q E s := fun a bs e hb m => by
        obtain ⟨m, hm, t', ht⟩ := hb a m
        subst e
        have et : t = t' := Sh.det _ _ _ hv _ _ ht
        subst et
        exact IH m (by omega) _ _ _ ht r hz A E s Q hg (by omega) rfl hQ
      have hu1 : A.in1.units + (n + 1) < cLine := by
        show A.units + 1 + (n + 1) < cLine
        omega
      have hk0 : ∀ b o, s.heap.get? b = some o → s.heap.get? b = some o := fun _ _ e => e
      rcases id hv with c | ⟨a, xs, ts, rfl, e, p, rfl⟩ | ⟨a, xs, ts, rfl, e, p, rfl⟩ | ⟨a, kvs, ts, rfl, e, p, rfl⟩
      · exact plain c
      · cases (show u = Value.ref a from r)
        obtain ⟨_, its, m, rv, ho⟩ := (show ObjOk P w H s.heap a (.lst xs) from ok a _ e)
        obtain ⟨bs, hb, hk⟩ := all_repr ih p rv
        by_cases c : a ∈ bs
        · exact ring a bs rfl hb c
        · refine call_repr_slot (by omega) (T := "list") ⟨_, ho, rfl⟩ F.slot_list_repr.toG ?_
          cases its with
          | nil =>
            cases hk
            rw [listText_nil] at hQ
            exact call_list_repr_empty ⟨_, ho, rfl⟩ ho rfl ⟨_, _, rfl, hQ s.heap _ _ fun _ _ e => e⟩
          | cons x l =>
            exact call_list_reprK ho rfl rfl c (by simpa using hk.length_eq) (fun i y q => hk.item i y (by simpa using q)) (A := A.in1) hg (fun b _ => Clear.nil b) hu1 hk0 (fun h' z tk k => ⟨_, _, rfl, hQ h' z tk k⟩) hz
      · cases (show u = Value.ref a from r)
        obtain ⟨_, its, rv, o, ho, hc, m, hd⟩ := (show ObjOk P w H s.heap a (.tup xs) from ok a _ e)
        obtain ⟨bs, hb, hk⟩ := all_repr ih p rv
        by_cases c : a ∈ bs
        · exact ring a bs rfl hb c
        · exact call_repr_slot (by omega) (T := "tuple") ⟨_, ho, hc⟩ F.slot_tuple_repr (call_tuple_reprK ho hc hd c (by simpa using hk) (A := A.in1) hg (fun b _ => Clear.nil b) hu1 hk0 (fun h' z tk k => ⟨_, _, rfl, hQ h' z tk k⟩) hz)
      · cases (show u = Value.ref a from r)
        obtain ⟨_, ys, ws, rv, o, es, ep, ho, hc, hd, _, hp, _⟩ := (show ObjOk P w H s.heap a (.dK kvs) from ok a _ e)
        obtain ⟨bs, hb, hk⟩ := entries_repr ih p rv hp
        by_cases c : a ∈ bs
        · exact ring a bs rfl hb c
        · exact call_repr_slot (by omega) (T := "dict") ⟨_, ho, hc.1⟩ F.slot_dict_repr (call_dict_reprK ho hc.1 hd ys c hk (A := A.in1) hg (fun b _ => Clear.nil b) hu1 hk0 (fun h' z tk k => ⟨_, _, rfl, hQ h' z tk k⟩) hz)
end
section
variable {X : Cx}
def rRepr : List V → Hp → VK → Prop := fun vs H Q => ∃ (v : V) (n : Nat) (t : Str), vs = [v] ∧ Sh H n v t ∧ n ≤ 50 ∧ t.length ≤ sizeLine ∧ Q (.str t) H
theorem call_repr (gd : X.A.guards = some []) (hu : X.A.units + 64 < cLine) : CallR X (.builtin "repr") rRepr := by
  intro pins s σ H vs us Q I r h
  obtain ⟨v, n, t, rfl, hv, hn, hz, q⟩ := h
  obtain ⟨u, rfl, ru⟩ := vals1 r
  exact call_sh I.hok n v t u hv ru hz X.A _ s _ gd (by omega) rfl fun h' z tk k => ⟨.str t, H, I.kept k, ⟨z, rfl⟩, q⟩
end
end Gd
/-! ### self.name = v on a fresh instance of an exception class of one's own over ANY built-in base (SF: the base's store facts) -/
namespace PySem
namespace OwnErr
open PySem.W PySem.Calls PyProof.Rows PySem.HandSPX Builtin Builtin.ObjectAttr
section
variable {prog : Program} {w : World} {A : Around} {R : Result → Shared → Prop} {hp : Heap} {g : Array GenState} {dr : Drawn} {tn : Nat} {os : OsState}
/-- what must be known of the class's chain: it lets a store pass, it is not empty, it ends in object -/
structure Chain (mro : List Value) : Prop where
  pass : ∀ self : Value, refuseLoop self "__setattr__" mro = pure ()
  obj : mro.contains (.type "object") = true
  some : mro.isEmpty = false
theorem chain_of {B sa ow : String} {bm : List Value} (SF : StoreFacts B bm sa ow) (ho : bm.contains (.type "object") = true) (C : Addr) : Chain (.ref C :: bm) where
  pass := fun self => by rw [refuseLoop_ref]; exact SF.passes self
  obj := by rw [List.contains_cons, ho, Bool.or_true]
  some := rfl
/-- the first attribute of such an instance: it gets a dict of its own, which is new -/
theorem first_store {K : Frag} {nm : Str} {tk : Tok} {v : Value} {x C : Addr} {fv : Array Value} {cd : ClassData} (Z : Chain cd.mro)
    (X : K.In hp) (hx : hp.get? x = some { cls := .ref C, data := .fields fv }) (hcd : clsIn K C = some cd) (hh : cd.hasDict = true) (ha : findIn K (.ref C) nm = some none)
    (fin : ∀ h' tk' dx, (∀ b o, b ≠ x → hp.get? b = some o → h'.get? b = some o) → hp.objs.size ≤ dx → dx ≠ x → h'.get? x = some { cls := .ref C, dict := some dx, data := .fields fv } →
      h'.Ns1 dx (fun y => if y = nm then some v else none) → R (.ok (.ret .none)) ⟨h', g, dr, tk', os⟩) :
    codeAny (model prog w) A (.call (.builtin "object.__setattr__") ⟨[.ref x, .str nm tk, v], []⟩) R ⟨hp, g, dr, tn, os⟩ := by
  have inst : InstAt hp x { cls := .ref C, data := .fields fv } C none := ⟨hx, rfl, rfl, trivial⟩
  have old : x < hp.objs.size := Heap.lt_size hx
  have xs : x ≠ hp.objs.size := Nat.ne_of_lt old
  have isObj : Looks (model prog w) hp (isInstance (.ref x) (.type "object")) true :=
    inst.type.andThen (looks_mroIn X (by unfold mroIn; rw [hcd, Option.bind_some, if_neg (by rw [Z.some]; decide), Z.obj]))
  have mroL : Looks (model prog w) hp (mroOf (.ref C)) cd.mro := (looks_clsIn X hcd).andThen .now
  have noTaker : Looks (model prog w) hp (storeTaker? none) none := .now
  have clsL : Looks (model prog w) hp (classData C) cd := looks_clsIn X hcd
  have S0 := F.store_object
  refine codeAny_call_builtin S0.slot.plain S0.entry
    (@check_slot (model prog w) _ _ ⟨hp, g, dr, tn, os⟩ "object.__setattr__" "object" "__setattr__" (.ref x) [.str nm tk, v] [] _ S0.kind S0.split isObj (S0.args (.ref x) (.str nm tk) v) ?_)
  rw [osa_eq, refuse_eq]
  refine wpAny_bind (wpAny_bind (inst.type.at (wpAny_bind (mroL.at ?_))))
  rw [Z.pass]
  refine wpAny_pure (wpAny_bind (inst.type.at (wpAny_bind ((looks_findIn X ha).at (wpAny_bind (noTaker.at ?_))))))
  show wpAny _ _ (storeInOwnDict (.ref x) (.ref C) (.str nm tk) nm v false) _ _ _
  obtain ⟨c1, c2, c3, c4, c5, hasD, c7, c8, c9, c10, c11⟩ := cd
  dsimp only at hh
  subst hh
  unfold storeInOwnDict ownDictForStores
  repeat (first | with_reducible refine store_in_new ?_ ?_ | with_reducible refine wpAny_loadPart_at hx ?_ | with_reducible refine clsL.at ?_ | wp_step)
  · exact ⟨_, #[], _, (Heap.get?_update_ne _ _ _ _ xs.symm).trans (Heap.get?_push_at rfl rfl), rfl, fun e he => absurd he (by simp), fun _ => rfl⟩
  · intro h' tk' ns same
    have hx1 := Heap.get?_push_of_some { cls := .type "dict", data := .dict #[] } hx
    have here : h'.get? x = some { cls := .ref C, dict := some hp.objs.size, data := .fields fv } := (same.2 x xs).trans (Heap.get?_update_self _ hx1 rfl)
    have kept : ∀ b o, b ≠ x → hp.get? b = some o → h'.get? b = some o := fun b o nb eb =>
      (same.2 b (Nat.ne_of_lt (Heap.lt_size eb))).trans ((Heap.get?_update_ne _ _ _ _ nb).trans (Heap.get?_push_of_some _ eb))
    exact fin h' tk' hp.objs.size kept (Nat.le_refl _) xs.symm here ns
end
end OwnErr
end PySem
namespace PySem
namespace TmnyX
open PySem.W PySem.Calls PyProof.Rows PySem.HandSPX
/-! ### the text of __init__ -/
def iA (p1 p2 : Pos) : Arguments := { posonlyargs := [], args := [{ arg := "self", annotation := none, pos := p1 }, { arg := "limit", annotation := none, pos := p2 }], vararg := none, kwonlyargs := [], kw_defaults := [], kwarg := none, defaults := [] }
def iB (q1 q2 q3 q4 : Pos) : List Stmt := [.Assign [.Attribute (.Name "self" q1) "limit" q2] (.Name "limit" q3) q4]
def iS : Scope := { kind := .function, names := [(PySem.Str.ofString "self", .local), (PySem.Str.ofString "limit", .local)], isGenerator := false, isCoroutine := false, more := [] }
/-- what the written part says of Low, at C, and of its __init__, at fI -/
structure TmnyTxt (K : Frag) (mg : Str → Option Value) (C fI : Addr) : Prop where
  gC : mg "TooMany" = some (.ref C)
  cls : ∃ nm q N bs bm sn sub ab col dd k0 k1 k2 k3 k5, K.lookup C = some (excClassObj nm q C N bs bm true sn sub ab col dd k0 k1 k2 k3 k5 "OverflowError.__new__") ∧ bm = [.type "OverflowError", .type "ArithmeticError", .type "Exception", .type "BaseException", .type "object"]
  sa : findIn K (.ref C) "__setattr__" = some (some (.builtin "object.__setattr__"))
  ga : findIn K (.ref C) "__getattribute__" = some (some (.builtin "BaseException.__getattribute__"))
  gg : findIn K (.ref C) "__getattr__" = some none
  noN : findIn K (.ref C) "limit" = some none
  iC : findIn K (.ref C) "__init__" = some (some (.ref fI))
  tC : typeIn K (.ref fI) = some (.type "function")
  kC : keepIn K (.ref C) = true
  exC : subIn K (.ref C) (.type "BaseException") = some true
  tyC : typeIn K (.ref C) = some (.type "type")
  hdC : hasDictIn K C = true
  te : exmOne K (.ref C) (.ref C) = some true
  fn : ∃ (oc : Value) (od : Option Addr) (doc pm : Value) (an : Option Addr) (cdv ct : Value) (osl : Array (Option Value)) (p1 p2 q1 q2 q3 q4 : Pos),
    K.lookup fI = some ⟨oc, od, .func (fnOf "__init__" "TooMany.__init__" (iA p1 p2) (iB q1 q2 q3 q4) iS .none .none doc pm an cdv ct), osl⟩ ∧ codeIn K cdv "TooMany.__init__" = true
theorem one_size (v : Value) : [v].length ≤ sizeLine := by
  rw [sizeLine_eq]
  exact (by decide : 1 ≤ 16777216)
theorem kept_but {K : Frag} {h h' : Heap} {x : Addr} (X : K.In h) (hx : K.lookup x = none) (k : ∀ b o, b ≠ x → h.get? b = some o → h'.get? b = some o) : K.In h' := fun a o e =>
  k a o (fun z => by rw [z, hx] at e; cases e) (X a o e)
theorem ldC {M : Model} {s : Shared} {name : Str} {scope : Scope} {L a : Addr} {cd : Value} {m : Str → Option Value} {x : Str} {pos : Pos} {v : Value} {Q : Value → Shared → Prop} {A : Around} {E : Value → Shared → Prop} (hn : s.heap.Ns L m) (hv : m x = some v) (h : Q v s)
    (hk : scope.kind = .function := by rfl) (hl : (envOfC name scope L a cd).kindOf x = some .local := by rfl) (hd : (x == ("__debug__" : Str)) = false := by decide) :
    wpAny M A (eval (.Name x pos) (envOfC name scope L a cd)) Q E s := wpAny_Name (wpAny_loadName_local hk hl hn hv h) hd
/-- what __init__ leaves of a fresh exception at x -/
structure InitEnd (h h' : Heap) (x C dx t1 : Addr) (v : Value) : Prop where
  keep : ∀ b o, b ≠ x → h.get? b = some o → h'.get? b = some o
  obj : h'.get? x = some { cls := .ref C, dict := some dx, data := .fields #[.ref t1, .none, .none, .none, .bool false, .none] }
  dbig : h.objs.size ≤ dx
  dne : dx ≠ x
  ns : h'.Ns1 dx (fun y => if y = "limit" then some v else none)
/-- a made Low -/
structure OwnMade (h h' : Heap) (e C d : Addr) (v : Value) : Prop where
  keep : ∀ b o, h.get? b = some o → h'.get? b = some o
  new : h.objs.size ≤ e
  obj : ∃ oe vs, h'.get? e = some oe ∧ oe.cls = .ref C ∧ oe.dict = some d ∧ oe.data = .fields vs ∧ vs[1]? = some .none
  dbig : h.objs.size ≤ d
  dne : d ≠ e
  ns : h'.Ns1 d (fun y => if y = "limit" then some v else none)
section
variable {prog : Program} {w : World} {A : Around} {E : Value → Shared → Prop} {R : Result → Shared → Prop} {s : Shared} {K : Frag} {mg : Str → Option Value} {C fI : Addr}
theorem tmny_init (T : TmnyTxt K mg C fI) {x t0 : Addr} {v : Value} (X : K.In s.heap) (hlim : s.heap.NoLimit) (hx : s.heap.get? x = some (excO C t0)) (hnx : K.lookup x = none) (hroom : A.depth < recursionLimit)
    (hq : ∀ h' tk dx, InitEnd s.heap h' x C dx t0 v → R (.ok (.ret .none)) { s with heap := h', toks := tk }) :
    codeAny (model prog w) A (.call (.ref fI) ⟨[.ref x, v], []⟩) R s := by
  obtain ⟨oc, od, doc, pm, an, cdv, ct, osl, p1, p2, q1, q2, q3, q4, ho, hcd⟩ := T.fn
  obtain ⟨nm, q, N, bs, bm, sn, sub, ab, col, dd, k0, k1, k2, k3, k5, hC, hbm⟩ := T.cls
  have hcl : clsIn K C = some { name := nm, bases := bs, mro := .ref C :: bm, ns := N, qualname := q, hasDict := true, slotNames := sn, subclasses := sub, abstract := ab, collection := col, hasDel := false } := by unfold clsIn; rw [hC] <;> rfl
  refine Att.call_fn (binds := [("self", .ref x), ("limit", v)]) X hlim ho hcd hroom (BindsTo.of_eq (by first | rfl | with_unfolding_all rfl)) (by first | rfl | decide | with_unfolding_all rfl) (fun s₁ IC => ?_) rfl rfl rfl
  obtain ⟨h₁, tk₁, rfl⟩ := IC.toInCall.same
  have k : ∀ b o, s.heap.get? b = some o → h₁.get? b = some o := IC.toInCall.keep
  have hn := IC.toInCall.ns
  have hxL : s.heap.objs.size ≠ x := Nat.ne_of_gt (Heap.lt_size hx)
  have X₁ : K.In h₁ := X.keeps k
  have hx₁ := k _ _ hx
  -- self.by = by
  show wpAny _ _ (execs _ _) _ _ _
  refine wpAny_execs_cons (plainObj_wpAny_Assign_Attribute ?_)
  refine ldC (v := v) hn (by first | rfl | with_unfolding_all rfl | kernel_rfl) (ldC (v := .ref x) hn (by first | rfl | with_unfolding_all rfl | kernel_rfl) ?_)
  refine set_plain X₁ (ox := excO C t0) (od := none) ⟨hx₁, rfl, rfl, trivial⟩ T.sa ?_
  refine OwnErr.first_store (cd := _) (by rw [hbm]; exact OwnErr.chain_of F.store_OverflowError (by decide +kernel) C) X₁ hx₁ hcl rfl T.noN (fun h₃ tk₃ dx k₃ dn dne hx₃ hn₃ => ?_)
  show wpAny _ _ (execs _ _) _ _ _
  have z : s.heap.objs.size < h₁.objs.size := hn.lt
  exact wpAny_execs_nil (hq h₃ tk₃ dx ⟨fun b o hb e => k₃ b o hb (k b o e), hx₃, Nat.le_of_lt (Nat.lt_of_lt_of_le z dn), dne, hn₃⟩)
theorem tmny_made (T : TmnyTxt K mg C fI) {v : Value} (X : K.In s.heap) (hlim : s.heap.NoLimit) (hroom : A.depth + 1 < recursionLimit)
    (hq : ∀ h' tk e d, OwnMade s.heap h' e C d v → R (.ok (.ret (.ref e))) { s with heap := h', toks := tk }) :
    codeAny (model prog w) A (.call (.ref C) ⟨[v], []⟩) R s := by
  obtain ⟨nm, q, N, bs, bm, sn, sub, ab, col, dd, k0, k1, k2, k3, k5, hC, hbm⟩ := T.cls
  obtain ⟨hp, g, dr, tk, os⟩ := s
  have k : ∀ b o, hp.get? b = some o → ((hp.push (kdv_tup [v])).push (excO C hp.objs.size)).get? b = some o := fun b o e => Heap.get?_push_of_some _ (Heap.get?_push_of_some _ e)
  have hget : ((hp.push (kdv_tup [v])).push (excO C hp.objs.size)).get? (hp.objs.size + 1) = some (excO C hp.objs.size) := by heap_get
  have hnx : K.lookup (hp.objs.size + 1) = none := by
    cases e : K.lookup (hp.objs.size + 1) with
    | none => rfl
    | some o =>
      have z : hp.get? (hp.objs.size + 1) = some o := X _ _ e
      exact absurd (Nat.lt_of_succ_lt (Heap.lt_size z)) (Nat.lt_irrefl _)
  refine call_own F.excBase_OverflowError (fun X => by rw [hbm]) (X _ _ hC) (looks_findIn X T.iC) (fun self => bind_fn X self T.tC) (one_size v) ?_
  refine tmny_init (s := ⟨(hp.push (kdv_tup [v])).push (excO C hp.objs.size), g, dr, tk, os⟩) T (X.keeps k) (hlim.keeps k) hget hnx ?_ fun h' tk' dx ⟨k', hx, dn, dne, hns⟩ => ?_
  · show A.depth + 1 < recursionLimit
    exact hroom
  · have old : ∀ b o, hp.get? b = some o → h'.get? b = some o := fun b o e => k' b o (Nat.ne_of_lt (Nat.lt_succ_of_lt (Heap.lt_size e))) (k b o e)
    have z : hp.objs.size + 1 + 1 ≤ dx := by
      first
        | (simpa only [Heap.size_push] using dn)
        | exact dn
        | (have q := dn; rw [Heap.size_push, Heap.size_push] at q; exact q)
    exact ⟨rfl, hq h' tk' (hp.objs.size + 1) dx ⟨old, Nat.le_succ _, ⟨_, _, hx, rfl, rfl, rfl, rfl⟩, Nat.le_trans (Nat.le_trans (Nat.le_succ _) (Nat.le_succ _)) z, dne, hns⟩⟩
end
end TmnyX
end PySem
namespace L2
open PySem PySem.Spec PyProof.Rows
theorem relO_tmny {v : V} {v' : Value} (r : RelV v v') (f : Str) : RelO (List.lookup f [(("limit" : Str), v)]) (if f = "limit" then some v' else none) := by
  by_cases hw : f = "limit"
  · subst hw
    rw [if_pos rfl]
    have q : List.lookup ("limit" : Str) [(("limit" : Str), v)] = some v := by simp [List.lookup]
    rw [q]
    exact r
  · rw [if_neg hw]
    have qw : (f == ("limit" : Str)) = false := by simpa using hw
    have q2 : List.lookup f [(("limit" : Str), v)] = none := by simp [List.lookup, qw]
    rw [q2]
    trivial
section
variable {X : Cx} {C fI : Addr}
/-- Low(e) -/
def tMkTmny (C : Addr) (ta : TA) : St → Hp → XK → Prop := fun σ H Q => ta σ H fun vs H1 => ∃ v, vs = [v] ∧ ∀ d, H1 d = none → Q (.ref C) (some d) (upd H1 d (.xd [(("limit" : Str), v)]))
theorem pmk_tmny {a : Expr} {ta : TA} {p pos : Pos} {k : Nat} (T : PySem.TmnyX.TmnyTxt X.K X.mg C fI) (hr : Room k X.A) (ha : PA X [a] ta) (hg : Gl X "TooMany" := by rfl)
    (he : starEach (a :: []) X.env = (false, eval a X.env) :: starEach [] X.env := by rfl) (hpl : (backTo pos (starEach [] X.env)).any (·.1) = false := by rfl) :
    PMk X (.Call (.Name "TooMany" p) [a] [] pos) (tMkTmny C ta) := by
  intro pins s σ H Q I h
  refine wpAny_Call_Name_kw (ld_glob I hg T.gC ?_)
  refine PySem.W.callWith_K (h₀ := X.base) I.ok.mod.kin T.kC (thn (ha.run pos pins s σ H _ I h) fun us s1 hh => ?_) he hpl
  obtain ⟨vs, H1, I1, r1, v, ev, q1⟩ := hh
  subst ev
  refine ⟨I1.kIn, ?_⟩
  cases r1 with
  | cons rv rn =>
    rename_i v' us'
    cases rn
    show wpAny _ _ (call (.ref C) [v']) _ _ _
    have hlim := I1.nolimit
    obtain ⟨hp, g, dr, tk, os⟩ := s1
    refine wpAny_call (PySem.TmnyX.tmny_made T I1.kIn hlim (by have := hr.dp; omega) fun h' tk' e d M => ?_)
    show MkP X pins σ Q (.ref e) ⟨h', g, dr, tk', os⟩
    obtain ⟨oe, fv, hoe, hc, hd, hdat, h1⟩ := M.obj
    have hns := M.ns
    obtain ⟨G', g1, g2⟩ := restrict h' fun b => decide (b ≠ e)
    have gk : ∀ b, b ≠ e → G'.get? b = h'.get? b := fun b hb => g1 b (decide_eq_true hb)
    have ge : G'.get? e = none := g2 e (by simp)
    have old : ∀ b o, hp.get? b = some o → G'.get? b = some o := fun b o q => (gk b (Nat.ne_of_lt (Nat.lt_of_lt_of_le (Heap.lt_size q) M.new))).trans (M.keep b o q)
    have ob : ObjOk X.prog X.w (upd H1 d (.xd [(("limit" : Str), v)])) G' d (.xd [(("limit" : Str), v)]) :=
      ⟨_, hns.at (fun o q => (gk d M.dne).trans q), fun f => relO_tmny rv f⟩
    have J : Inv X pins σ (upd H1 d (.xd [(("limit" : Str), v)])) ⟨G', g, dr, tk', os⟩ := I1.laid (t' := tk') old M.dbig ob
    refine ⟨e, oe, fv, ⟨G', g, dr, tk', os⟩, _, .ref C, some d, rfl, J, fun b o q => ?_, ge, hoe, ⟨hc, hd⟩, hdat, h1, ?_, rfl, I1.bare, raises_own T.exC T.tyC, q1 d (I1.hok.fresh M.dbig)⟩
    · by_cases hb : b = e
      · have q' : G'.get? b = some o := q
        rw [hb, ge] at q'; cases q'
      · exact (gk b hb).symm.trans q
    · rw [upd_ne (Ne.symm M.dne)]
      exact I1.hok.fresh M.new
/-- raise Low(e) -/
def tRaiseTmny (C : Addr) (W : WX) (ta : TA) : TS := fun _ σ H => tMkTmny C ta σ H fun cls d H' => W cls d σ H'
theorem ps_raiseTmny {a : Expr} {ta : TA} {W : WX} {p pos pos2 : Pos} {k : Nat} (hc : X.calm = true) (T : PySem.TmnyX.TmnyTxt X.K X.mg C fI) (hr : Room k X.A) (tk : Takes X W) (ha : PA X [a] ta) (hg : Gl X "TooMany" := by rfl)
    (he : starEach (a :: []) X.env = (false, eval a X.env) :: starEach [] X.env := by rfl) (hpl : (backTo pos (starEach [] X.env)).any (·.1) = false := by rfl) :
    PS X (.Raise (some (.Call (.Name "TooMany" p) [a] [] pos)) none pos2) (tRaiseTmny C W ta) := ps_raise hc tk (pmk_tmny T hr ha hg he hpl)
/-- low.by, low the exception that the suite holds (at a; its class cls, its dict d) -/
def tByTmny (C : Addr) (a : Addr) (cls : Value) (d : Option Addr) (te : TE) : TE := fun σ H Q => te σ H fun x H1 => x = .ref a ∧ cls = .ref C ∧ ∃ (dd : Addr) (v : V), d = some dd ∧ H1 dd = some (.xd [(("limit" : Str), v)]) ∧ Q v H1
theorem pe_byTmny {a : Addr} {oe : Obj} {cls : Value} {d : Option Addr} {pn : List (Addr × Obj)} {e : Expr} {te : TE} {pos : Pos} (T : PySem.TmnyX.TmnyTxt X.K X.mg C fI) (hz : Zc cls d oe) (hf : ∃ vs, oe.data = .fields vs) (he : PE (X.suite a ((a, oe) :: pn)) e te)
    (hb : attributeBase e "limit" X.env (eval e X.env) = eval e X.env := by rfl) :
    PE (X.suite a ((a, oe) :: pn)) (.Attribute e "limit" pos) (tByTmny C a cls d te) := by
  refine ⟨fun pins s σ H Q I h => ?_⟩
  refine attr_of hb (thn (he.run pins s σ H _ I h) fun u s1 hh => ?_)
  obtain ⟨x, H1, I1, rx, ex, ec, dd, v, ed, ea, q⟩ := hh
  subst ex
  obtain rfl : u = Value.ref a := rx
  subst ec
  subst ed
  obtain ⟨ha, _⟩ := I1.pin (a, oe) (List.mem_append_left _ List.mem_cons_self)
  obtain ⟨vs, hd⟩ := hf
  have hx : ObjOk X.prog X.w H1 s1.heap dd (.xd [(("limit" : Str), v)]) := I1.hok dd _ ea
  obtain ⟨mA, hns, hr⟩ := hx
  obtain ⟨od, ho, hl⟩ := lookIn_ns hns
  have l : List.lookup ("limit" : Str) [(("limit" : Str), v)] = some v := by simp [List.lookup]
  obtain ⟨u, hu, ru⟩ := RelO.some_of (v := v) (o := mA "limit") (by rw [← l]; exact hr "limit")
  have J : PySem.W.InstAt s1.heap a oe C (some od) := ⟨ha, hz.1, by unfold PySem.W.notCls; rw [hd] <;> rfl, by rw [hz.2]; exact ho⟩
  exact HandSPX.exc_get I1.kIn J T.ga T.gg T.exC (PySem.W.findObj_own T.hdC T.noN rfl (by rw [hl, hu])) (handed_of ru) ⟨v, H1, I1.tok _, ru, q⟩
end
end L2

namespace L2
open PySem PySem.Spec PyProof.Rows
/-- an if whose test is known -/
theorem if_true_of {c : Bool} {A B : Prop} (hc : c = true) (h : A) : if c = true then A else B := by
  rw [if_pos hc]
  exact h
theorem if_false_of {c : Bool} {A B : Prop} (hc : c = false) (h : B) : if c = true then A else B := by
  rw [hc, if_neg Bool.false_ne_true]
  exact h
end L2
/-! ### {**d, k: v} -/
namespace Du
theorem twice {R A : Prop} (f : R → A) (r : R) : A := f r
open PySem PySem.Spec PyProof.Rows L2
section
variable {prog : Program} {w : World} {K : Type} [DecidableEq K] {knd : KeyKind prog w K} {A : Around} {E : Value → Shared → Prop} {s : Shared}
/-- a key that isn't there goes to the end -/
theorem put_fresh {d : Addr} {old : List (K × Value)} {k : K} {kv vv : Value} {Q : Unit → Shared → Prop} (is : knd.is k kv = true) (at_ : s.heap.DictOf knd d old) (few : old.length ≤ sizeLine) (fresh : k ∉ old.map (·.1))
    (then_ : ∀ h2, h2.DictOf knd d (old ++ [(k, vv)]) → Heap.SameBut d s.heap h2 → Q () { s with heap := h2 }) : wpAny (model prog w) A (dictPut d (knd.hash k) kv vv) Q E s := by
  obtain ⟨ob, rows, age, there, exact_, dat, ks, prs, ndk⟩ := at_
  have sz : rows.size ≤ sizeLine := by
    have e := prs.length
    rw [Array.length_toList] at e
    omega
  have no : (rows.findIdx? fun e => knd.is k e.key) = none := by
    have e1 := prs.findIdx k
    have e2 : (old.findIdx? fun kv => decide (kv.1 = k)) = none := by
      rw [List.findIdx?_eq_none_iff]
      intro x hx
      exact decide_eq_false fun e => fresh (e ▸ List.mem_map_of_mem hx)
    rw [e2] at e1
    rw [← e1]
    obtain ⟨l⟩ := rows
    simp
  unfold dictPut
  refine wpAny_bind (wpAny_dictFind_of is there dat ks ?_)
  rw [no]
  refine wpAny_updateDictKeys (hz := sz) there dat (then_ _ ⟨_, _, age + 1, Heap.get?_update_self _ there (Obj.isFreed_of_dict (Obj.data_mapDictKeys dat _)), exact_.mapDictKeys _,
    Obj.data_mapDictKeys dat _, ks.push is _, ?_, ?_⟩ (Heap.SameBut.update ..))
  · have := prs.append is (knd.hash k) vv
    obtain ⟨l⟩ := rows
    simpa using this
  · rw [List.map_append, List.nodup_append]
    refine ⟨ndk, by simp, fun x hx y hy e => ?_⟩
    rw [List.map_cons, List.map_nil, List.mem_singleton] at hy
    rw [e, hy] at hx
    exact fresh hx
/-- all of one dict behind what another one has -/
theorem merge_fresh {d a : Addr} {acc more : List (K × Value)} {Q : Unit → Shared → Prop} (da : d ≠ a) (sys : (a == sysModules) = false) (hd : s.heap.DictOf knd d acc) (ha : s.heap.DictOf knd a more) (nodup : ((acc ++ more).map (·.1)).Nodup)
    (few : acc.length + more.length ≤ sizeLine) (byV : ∀ (k : K) (v : Value), knd.is k v = true → ∀ b, v ≠ .ref b)
    (then_ : ∀ h2, h2.DictOf knd d (acc ++ more) → Heap.SameBut d s.heap h2 → Q () { s with heap := h2 }) : wpAny (model prog w) A (mergeMapping d (.ref a) false) Q E s := by
  have tyA := ha.typeIs
  obtain ⟨od, rd, gd, atd, exd, datd, ksd, prd, ndd⟩ := id hd
  obtain ⟨oa, ra, ga, ata, exa, data_, ksa, pra, nda⟩ := id ha
  have len : more.length = ra.size := by
    rw [← pra.length]
    simp
  unfold mergeMapping
  refine wpAny_bind (wpAny_isInstance (T := "dict") (U := "dict") (b := true) tyA (by rw [isSubtype_type]; kernel_rfl) ?_)
  rw [if_pos rfl]
  refine wpAny_bind (wpAny_specialOf tyA F.slot_dict_iter.lookup ?_)
  refine wpAny_bind (wpAny_pure ?_)
  have e : (some (Value.builtin "dict.__iter__") == some (Value.builtin "dict.__iter__")) = true := by decide +kernel
  rw [e]
  dsimp only
  rw [if_neg (by rw [sys]; exact Bool.false_ne_true)]
  refine wpAny_bind (wpAny_dictEntries atd datd ?_)
  apply twice
  · intro rest
    refine wpAny_ite_split (fun _ => ?_) (fun _ => ?_)
    · refine wpAny_bind (wpAny_dictEntries ata data_ ?_)
      refine wpAny_bind ?_
      rw [← Array.forIn_toList]
      refine wpAny_forIn_list _ (fun l _ s' => s' = s ∧ ∀ e ∈ l, e ∈ ra) _ ?_ ?_ _ _ ⟨rfl, fun e he => Array.mem_toList_iff.mp he⟩
      · rintro e l b s' ⟨es, hin⟩
        rw [es]
        obtain ⟨k, hk, _⟩ := ksa e (hin e List.mem_cons_self)
        have no := byV k e.key hk
        split
        · rename_i b eb
          exact absurd eb (no b)
        · exact wpAny_pure ⟨rfl, fun x hx => hin x (List.mem_cons_of_mem _ hx)⟩
      · rintro b s' ⟨es, _⟩
        rw [es]
        exact rest
    · exact rest
  refine wpAny_bind (wpAny_dictEntries ata data_ ?_)
  refine wpAny_bind (wpAny_dictEpoch ata data_ ?_)
  refine wpAny_bind ?_
  refine wpAny_forIn_list _ (fun l _ s' => ∃ (h2 : Heap) (i : Nat), s' = { s with heap := h2 } ∧ l = List.range' i (ra.size - i) ∧ i ≤ ra.size ∧ h2.DictOf knd d (acc ++ more.take i) ∧ h2.get? a = some oa ∧ Heap.SameBut d s.heap h2) _ ?_ ?_ _ _
    ⟨s.heap, 0, rfl, by rw [List.range_eq_range', Nat.sub_zero], Nat.zero_le _, by rw [List.take_zero, List.append_nil]; exact hd, ata, Heap.SameBut.refl _ _⟩
  · rintro x l b s' ⟨h2, i, rfl, el, hi, hd2, ata2, same⟩
    have lt : i < ra.size := by
      rcases Nat.lt_or_ge i ra.size with h | h
      · exact h
      · rw [Nat.sub_eq_zero_of_le h] at el
        cases el
    have e1 : ra.size - i = (ra.size - (i + 1)) + 1 := by omega
    rw [e1, List.range'_succ] at el
    injection el with ex el
    subst ex
    refine wpAny_bind (wpAny_dictEntries ata2 data_ ?_)
    rw [Array.getElem?_eq_getElem lt]
    have ltm : x < more.length := by omega
    obtain ⟨hk, hv⟩ := pra.get? (i := x) (e := ra[x]) (k := more[x].1) (v := more[x].2) (by rw [Array.getElem?_toList, Array.getElem?_eq_getElem lt]) (List.getElem?_eq_getElem ltm)
    obtain ⟨k2, hk2, hh⟩ := ksa ra[x] (Array.getElem_mem lt)
    have ek : k2 = more[x].1 := knd.inj _ _ _ hk2 hk
    subst ek
    have split_ : more = more.take x ++ more[x] :: more.drop (x + 1) := by rw [List.getElem_cons_drop, List.take_append_drop]
    have fresh : more[x].1 ∉ (acc ++ more.take x).map (·.1) := fun m => by
      have nd2 := nodup
      rw [split_, ← List.append_assoc, List.map_append, List.nodup_append] at nd2
      exact nd2.2.2 _ m _ (List.mem_map_of_mem List.mem_cons_self) rfl
    refine wpAny_bind (wpAny_holding ?_)
    rw [if_neg Bool.false_ne_true, hh, hv]
    have few2 : (acc ++ more.take x).length ≤ sizeLine := by
      rw [List.length_append, List.length_take]
      omega
    refine put_fresh hk hd2 few2 fresh fun h3 hd3 same3 => ?_
    have ata3 : h3.get? a = some oa := (same3.2 a (Ne.symm da)).trans ata2
    refine wpAny_bind (wpAny_dictEpoch ata3 data_ ?_)
    rw [if_neg (by simp)]
    refine wpAny_pure ⟨h3, x + 1, rfl, el, lt, ?_, ata3, same.trans same3⟩
    rw [List.take_add_one, List.getElem?_eq_getElem ltm, ← List.append_assoc]
    exact hd3
  · rintro b s' ⟨h2, i, rfl, el, hi, hd2, ata2, same⟩
    have ei : i = ra.size := by
      rcases Nat.lt_or_ge i ra.size with h | h
      · have e1 : ra.size - i = (ra.size - (i + 1)) + 1 := by omega
        rw [e1, List.range'_succ] at el
        cases el
      · omega
    rw [ei, ← len, List.take_length] at hd2
    exact wpAny_pure (then_ h2 hd2 same)
end
/-- {**d, k: v}: a new dict with all of d and, at its end, one key more -/
def tDunp (t0 tk tv : TE) : TE := fun σ H Q => ∀ p, H p = none → t0 σ (upd H p (.dK [])) fun x H1 => ∃ (a : Addr) (kvs : List (Key × V)), x = .ref a ∧ a ≠ p ∧ H1 p = some (.dK []) ∧ H1 a = some (.dK kvs) ∧
  ∀ q, (upd H1 p (.dK kvs)) q = none → tk σ (upd (upd H1 p (.dK kvs)) q (.dK [])) fun y H2 => tv σ H2 fun z H3 => ∃ k : Key, y = kV k ∧ H3 q = some (.dK []) ∧ H3 p = some (.dK kvs) ∧ k ∉ kvs.map (·.1) ∧ kvs.length < 1000 ∧
    Q (.ref p) (upd (upd H3 q (.dK [(k, z)])) p (.dK (kvs ++ [(k, z)])))
theorem key_byV {prog : Program} {w : World} (k : Key) (v : Value) (h : (mixKind prog w).is k v = true) (b : Addr) : v ≠ .ref b := by
  rcases keyIs_shape (k := k) (v := v) h with ⟨i, t, _, rfl⟩ | ⟨x, t, _, rfl⟩ <;> intro e <;> cases e
theorem KV.keys {kvs : List (Key × V)} {vs : List (Key × Value)} (r : KV kvs vs) : vs.map (·.1) = kvs.map (·.1) := by
  unfold KV at r
  induction r with
  | nil => rfl
  | cons h t ih => rw [List.map_cons, List.map_cons, ih, h.1]
theorem KV.app {kvs ks2 : List (Key × V)} {vs vs2 : List (Key × Value)} (r : KV kvs vs) (r2 : KV ks2 vs2) : KV (kvs ++ ks2) (vs ++ vs2) := by
  unfold KV at r
  induction r with
  | nil => exact r2
  | cons h t ih => exact .cons h ih
section
variable {X : Cx} {pos : Pos} {e0 k v : Expr} {t0 tk tv : TE}
theorem pe_dunp (h0 : PE X e0 t0) (hk : PE X k tk) (hv : PE X v tv) : PE X (.Dict [none, some k] [e0, v] pos) (tDunp t0 tk tv) := by
  refine ⟨fun pins s σ H Q I q => ?_⟩
  have hn := I.hok.fresh (Nat.le_refl s.heap.objs.size)
  have I1 := I.laid (a := s.heap.objs.size) (o := .dK []) (h' := s.heap.push { cls := .type "dict", data := .dict #[] }) (t' := s.toks) (fun _ _ q => Heap.get?_push_of_some _ q) (Nat.le_refl _) (dk_empty s.heap I.big)
  rw [arm_eval_Dict]
  refine wpAny_bind (wpAny_standAt ?_)
  have items : (evalEachOpt [none, some k] X.env).zip ((evalEach [e0, v] X.env).map fun v => do let x ← v; standAt pos; pure x) =
    [(none, do let x ← eval e0 X.env; standAt pos; pure x), (some (eval k X.env), do let x ← eval v X.env; standAt pos; pure x)] := rfl
  rw [items]
  unfold dictDisplay
  simp only [List.forIn_cons, List.forIn_nil]
  refine wpAny_bind (wpAny_bind ?_)
  refine wpAny_bind (wpAny_of_eq (a := none) rfl ?_)
  dsimp only
  refine wpAny_bind (wpAny_alloc ?_)
  refine wpAny_bind (wpAny_holding (wpAny_bind (thn (h0.run pins _ σ _ _ I1 (q _ hn)) fun u s1 ⟨x, H1, I2, rx, a, kvs, ex, ap, hp1, ha1, q1⟩ => wpAny_bind (wpAny_standAt (wpAny_pure ?_)))))
  subst ex
  obtain rfl : u = Value.ref a := rx
  obtain ⟨za, sysa, va, ra, da⟩ := dk_of I2.hok ha1
  obtain ⟨zp, sysp, vp, rp, dp⟩ := dk_of I2.hok hp1
  cases rp
  have nda : ((([] : List (Key × Value)) ++ va).map fun (x : Key × Value) => x.1).Nodup := by
    obtain ⟨_, _, _, _, _, _, _, _, nd⟩ := da
    rw [List.nil_append]
    exact nd
  have lva : kvs.length = va.length := Paired.length ra
  refine wpAny_bind (wpAny_onRaise (wpAny_tryCatch (wpAny_onRaise (wpAny_holding (merge_fresh (knd := mixKind X.prog X.w) (Ne.symm ap) sysa dp da nda (by rw [List.length_nil]; omega) key_byV fun h2 dp2 same2 => wpAny_pure (wpAny_pure ?_))))))
  rw [List.nil_append] at dp2
  have hpe : ∃ q, h2.get? s.heap.objs.size = some q := let ⟨q, _, _, hq, _⟩ := dp2; ⟨q, hq⟩
  have I3 := d_write (t' := s1.toks) I2 (a := s.heap.objs.size) (ob := .dK kvs) (by rw [hp1]; exact True.intro) same2 hpe (dk_new za sysp ra dp2)
  dsimp only
  refine wpAny_bind ?_
  show wpAny _ _ (holding [.ref s.heap.objs.size] (subDict (pairTrees [some k] [v] X.env pos)) >>= _) _ _ _
  have nq : (upd H1 s.heap.objs.size (.dK kvs)) h2.objs.size = none := I3.hok.fresh (Nat.le_refl _)
  have I4 := I3.laid (a := h2.objs.size) (o := .dK []) (h' := h2.push { cls := .type "dict", data := .dict #[] }) (t' := s1.toks) (fun _ _ q => Heap.get?_push_of_some _ q) (Nat.le_refl _) (dk_empty h2 I3.big)
  refine wpAny_bind (wpAny_holding (wpAny_subDict (knd := mixKind X.prog X.w) (by rw [pairTrees_length _ _ _ _ rfl rfl]; show 1 ≤ 15; decide) ?_))
  refine pairTrees_cons_walk (thn (hk.run pins _ σ _ _ I4 (q1 _ nq)) fun kv s2 ⟨y, H2, I5, ry, q2⟩ => thn (hv.run pins s2 σ H2 _ I5 q2) fun vv s3 ⟨z, H3, I6, rz, key, ey, hq3, hp3, fresh, few, q3⟩ => pairTrees_nil_walk ?_)
  subst ey
  obtain ⟨zq, sysq, vq, rq, dq⟩ := dk_of I6.hok hq3
  cases rq
  refine ⟨[(key, vv)], ⟨kV_is ry, rfl, True.intro⟩, dq, fun h4 dq4 same4 => ?_⟩
  have dq5 : h4.DictOf (mixKind X.prog X.w) h2.objs.size [(key, vv)] := dq4
  have hqe : ∃ q, h4.get? h2.objs.size = some q := let ⟨q, _, _, hq, _⟩ := dq5; ⟨q, hq⟩
  have I7 := d_write (t' := s3.toks + 1) I6 (a := h2.objs.size) (ob := .dK [(key, z)]) (by rw [hq3]; exact True.intro) same4 hqe (dk_new (by show 1 ≤ sizeLine; decide) sysq (.cons ⟨rfl, rz⟩ .nil) dq5)
  have pq : s.heap.objs.size ≠ h2.objs.size := fun e => by
    rw [← e, upd_same] at nq
    cases nq
  have hp7 : (upd H3 h2.objs.size (.dK [(key, z)])) s.heap.objs.size = some (.dK kvs) := by
    rw [upd_ne pq]
    exact hp3
  obtain ⟨zp7, sysp7, vp7, rp7, dp7⟩ := dk_of I7.hok hp7
  have nd7 : ((vp7 ++ [(key, vv)]).map fun (x : Key × Value) => x.1).Nodup := by
    obtain ⟨_, _, _, _, _, _, _, _, nd⟩ := id dp7
    rw [List.map_append, List.nodup_append]
    refine ⟨nd, by simp, fun x hx y hy e => ?_⟩
    rw [KV.keys rp7] at hx
    rw [List.map_cons, List.map_nil, List.mem_singleton] at hy
    rw [e, hy] at hx
    exact fresh hx
  have lv7 : kvs.length = vp7.length := Paired.length rp7
  refine wpAny_bind (wpAny_onRaise (wpAny_holding (merge_fresh (knd := mixKind X.prog X.w) pq sysq dp7 dq5 nd7 (by rw [sizeLine_eq, ← lv7]; simp only [List.length_cons, List.length_nil]; omega) key_byV fun h5 dp8 same5 => wpAny_pure ?_)))
  have hpe5 : ∃ q, h5.get? s.heap.objs.size = some q := let ⟨q, _, _, hq, _⟩ := dp8; ⟨q, hq⟩
  have I8 := d_write (t' := s3.toks + 1) I7 (a := s.heap.objs.size) (ob := .dK (kvs ++ [(key, z)])) (by rw [hp7]; exact True.intro) same5 hpe5
    (dk_new (by rw [List.length_append, sizeLine_eq]; simp only [List.length_cons, List.length_nil]; omega) sysp7 (KV.app rp7 (.cons ⟨rfl, rz⟩ .nil)) dp8)
  exact wpAny_pure ⟨.ref s.heap.objs.size, _, I8, rfl, q3⟩
end
end Du
/-! ### tuple.count; t[:h:-1]; list.extend(t) -/
namespace Tb
open PySem PySem.Spec PyProof.Rows L2
/-- how often a flat value stands in a tuple of flat values -/
def rTCnt (K : PySem.W.Frag) : V → List V → Hp → VK → Prop := fun x xs H Q => ∃ (p : Addr) (ys : List V) (z : V), x = .ref p ∧ xs = [z] ∧ SqT K H p ys ∧ flatV z = true ∧ ys.all flatV = true ∧ Q (.int (ys.countP fun y => eqV y z : Nat)) H
theorem count_eqU {x : V} : ∀ {xs : List V} {us : List Value}, Vals xs us → xs.all flatV = true → us.countP (eqU x) = xs.countP fun y => eqV y x
  | _, _, .nil, _ => rfl
  | y :: xs, u :: us, .cons r t, f => by
    rw [List.all_cons, Bool.and_eq_true] at f
    rw [List.countP_cons, List.countP_cons, eqU_of r f.1, count_eqU t f.2]
theorem mt_tcount {X : Cx} : MtR X "tuple.count" (rTCnt X.K) := by
  intro pins s σ H x xs v us Q I rx rxs h
  obtain ⟨p, ys, z, rfl, rfl, ht, fz, fs, q⟩ := h
  cases rx
  obtain ⟨u, rfl, ru⟩ := rxs.one
  obtain ⟨its, rel, ⟨⟨ocl, odi, oda, osl⟩, hat, hcl, cnt, hda⟩, _⟩ := I.tuple ht
  dsimp only at hcl hda
  subst hcl hda
  have each : ∀ y, y ∈ its.toArray → SeqAt.EqAt X.A.in1 s y u (eqU z y) := fun y hy => mem_eqAt ru fz rel fs y (by simpa using hy)
  refine call_meets PySem.F.slot_tuple_count ⟨_, hat, rfl⟩
    PySem.F.entry_tuple_count (PySem.F.args_tuple_count_2 _ _)
    (SeqAt.tuple_countAt p its.toArray cnt odi osl u (eqU z)) ⟨hat, each, ?_⟩
  have e : its.toArray.toList.countP (eqU z) = ys.countP fun y => eqV y z := count_eqU rel fs
  refine ⟨.int (ys.countP fun y => eqV y z : Nat), H, I.tok _, ⟨s.toks, ?_⟩, q⟩
  show Value.int ((its.toArray.toList.countP (eqU z) : Nat) : Int) s.toks = _
  rw [e]
theorem fm_congr {α β : Type} {f g : α → Option β} : ∀ {l : List α}, (∀ x ∈ l, f x = g x) → l.filterMap f = l.filterMap g
  | [], _ => rfl
  | x :: l, h => by rw [List.filterMap_cons, List.filterMap_cons, h x List.mem_cons_self, fm_congr fun y m => h y (List.mem_cons_of_mem _ m)]
theorem back_pick (xs : Array Value) {h : Nat} (hh : h < xs.size) : ((List.range (xs.size - 1 - h)).filterMap fun (k : Nat) => xs[(((xs.size : Int) - 1) + (k : Int) * (-1)).toNat]?).toArray = ((xs.toList.drop (h + 1)).reverse).toArray := by
  congr 1
  have len : (xs.toList.drop (h + 1)).reverse.length = xs.size - 1 - h := by
    rw [List.length_reverse, List.length_drop, Array.length_toList]
    omega
  have all : ∀ l : List Value, (List.range l.length).filterMap (fun k => l[k]?) = l := fun l => by
    induction l with
    | nil => rfl
    | cons a l ih =>
      rw [List.length_cons, List.range_succ_eq_map, List.filterMap_cons]
      show a :: ((List.range l.length).map Nat.succ).filterMap (fun k => (a :: l)[k]?) = a :: l
      rw [List.filterMap_map]
      exact congrArg (a :: ·) ih
  have e := all (xs.toList.drop (h + 1)).reverse
  rw [len] at e
  refine Eq.trans ?_ e
  refine fm_congr fun k hk => ?_
  have hk := List.mem_range.mp hk
  rw [List.getElem?_reverse (by rw [List.length_drop, Array.length_toList]; omega), List.getElem?_drop, List.length_drop, Array.length_toList, Array.getElem?_toList]
  congr 1
  omega
section
variable {prog : Program} {w : World} {A : Around} {E : Value → Shared → Prop} {s : Shared}
theorem applied_back {sl : Addr} {vl vu vs : Value} {h n : Nat} {Q : Int × Int × Nat → Shared → Prop} (so : s.heap.IsSliceOf sl vl vu vs) (p0 : IsPart vl none) (p1 : IsPart vu (some (h : Int))) (p2 : IsPart vs (some (-1))) (hn : h < n)
    (k : Q ((n : Int) - 1, -1, n - 1 - h) s) : wpAny (model prog w) A (Builtin.Slice.sliceApplied (.ref sl) (pure (n : Int))) Q E s := by
  obtain ⟨ob, at_, _, dat⟩ := id so
  unfold Builtin.Slice.sliceApplied Builtin.Slice.sliceFields
  refine wpAny_bind (wpAny_bind (wpAny_field at_ dat (x := vl) rfl ?_))
  refine wpAny_bind (wpAny_field at_ dat (x := vu) rfl ?_)
  refine wpAny_bind (wpAny_field at_ dat (x := vs) rfl (wpAny_pure ?_))
  refine wpAny_bind (HT.slicePart_ p2 ?_)
  show wpAny _ _ (if ((-1 : Int) == 0) = true then _ else _) _ _ s
  rw [if_neg (by decide)]
  refine wpAny_bind (HT.slicePart_ p0 ?_)
  refine wpAny_bind (HT.slicePart_ p1 ?_)
  refine wpAny_bind (wpAny_pure ?_)
  have adj : Builtin.Slice.sliceAdjust none (some (h : Int)) (-1) (n : Int) = ((n : Int) - 1, (h : Int)) := by
    unfold Builtin.Slice.sliceAdjust
    have e : ¬ ((h : Int) < 0) := by omega
    have e2 : min (h : Int) ((n : Int) - 1) = h := by omega
    simp [e, e2]
  have pl : Builtin.Slice.slicePlaces ((n : Int) - 1) (h : Int) (-1) = n - 1 - h := by
    unfold Builtin.Slice.slicePlaces
    rw [if_neg (by decide)]
    by_cases c : (n : Int) - 1 > (h : Int)
    · rw [if_pos c]
      have e : ((n : Int) - 1 - (h : Int) - 1) / (- -1) = (n : Int) - 1 - (h : Int) - 1 := by
        rw [show (- -1 : Int) = 1 by decide, Int.ediv_one]
      rw [e]
      omega
    · rw [if_neg c]
      omega
  show wpAny _ _ (match Builtin.Slice.sliceAdjust none (some (h : Int)) (-1) (n : Int) with | (lo, hi) => pure (lo, (-1 : Int), Builtin.Slice.slicePlaces lo hi (-1))) _ _ s
  rw [adj]
  show wpAny _ _ (pure ((n : Int) - 1, (-1 : Int), Builtin.Slice.slicePlaces ((n : Int) - 1) (h : Int) (-1))) _ _ s
  rw [pl]
  exact wpAny_pure k
theorem item_back {t sl : Addr} {items : Array Value} {vl vu vs : Value} {h : Nat} {Q : Value → Shared → Prop} (tt : IsTup s.heap t items) (so : s.heap.IsSliceOf sl vl vu vs) (p0 : IsPart vl none) (p1 : IsPart vu (some (h : Int))) (p2 : IsPart vs (some (-1))) (hn : h < items.size) (few : items.size ≤ sizeLine)
    (k : Q (.ref s.heap.objs.size) { s with heap := s.heap.push { cls := .type "tuple", data := .seq ((items.toList.drop (h + 1)).reverse).toArray } }) : wpAny (model prog w) A (getItem (.ref t) (.ref sl)) Q E s := by
  have okSize : sizeOk (.seq ((items.toList.drop (h + 1)).reverse).toArray) := by
    show ((items.toList.drop (h + 1)).reverse).toArray.size ≤ sizeLine
    rw [List.size_toArray, List.length_reverse, List.length_drop, Array.length_toList]
    omega
  obtain ⟨ob, at_, cl, dat⟩ := id so
  have tyS : s.TypeIs (.ref sl) "slice" := ⟨ob, at_, cl⟩
  unfold getItem
  refine wpAny_holding ?_
  refine wpAny_bind (wpAny_sequenceKey tt.typeIs (by decide) ?_)
  refine wpAny_bind (wpAny_callSpecial?_slot (name := Str.ofString "__getitem__") tt.typeIs PyProof.Rows.slot_tuple_getitem
    (wpAny_call_entry PyProof.Rows.slot_tuple_getitem tt.typeIs PyProof.Rows.entry_tuple_getitem ?_ (PyProof.Rows.args_tuple_getitem _ _)))
  show wpAny _ _ (Builtin.Tuple.tupleItemsOf (.ref t) >>= _) _ _ s
  refine wpAny_bind (PyProof.Rows.tupleItemsOf_ tt ?_)
  refine wpAny_bind (wpAny_typeOf tyS ?_)
  rw [if_pos (by decide)]
  refine wpAny_bind (applied_back so p0 p1 p2 hn ?_)
  show wpAny _ _ (if (((items.size : Int) - 1) == 0 && (-1 : Int) == 1 && (items.size - 1 - h) == items.size) = true then _ else _) _ _ s
  have no : ¬ ((((items.size : Int) - 1) == 0 && (-1 : Int) == 1 && (items.size - 1 - h) == items.size) = true) := by
    rw [show ((-1 : Int) == 1) = false by decide, Bool.and_false, Bool.false_and]
    exact Bool.false_ne_true
  rw [if_neg no, back_pick items hn]
  exact wpAny_bind (m := Builtin.Tuple.tupleExact _) (wpAny_newObj_type (wpAny_pure ⟨_, rfl, wpAny_pure k⟩) okSize)
end
/-- t[:h:-1] -/
def tRevUp (K : PySem.W.Frag) (te th : TE) : TE := fun σ H Q => te σ H fun x H1 => tPart th σ H1 fun y H2 => ∃ (a : Addr) (xs : List V) (h : Nat), x = .ref a ∧ y = some (h : Int) ∧ SqT K H2 a xs ∧ h < xs.length ∧ ∀ p, H2 p = none → Q (.ref p) (upd H2 p (.tup (xs.drop (h + 1)).reverse))
section
variable {X : Cx}
theorem pe_revUp {e eh : Expr} {te th : TE} {c : Nat} {p1 p2 p3 pos : Pos} (he : PE X e te) (hh : PE X eh th) : PE X (.Subscript e (.Slice none (some eh) (some (.UnaryOp .USub (.Constant (.int 1) c p1) p2)) p3) pos) (tRevUp X.K te th) := by
  refine ⟨fun pins s0 σ G0 Q J0 q0 => ?_⟩
  refine Subscript_ (thn (he.run pins s0 σ G0 _ J0 q0) fun v0 s1 ⟨x, G1, J1, r0, q1⟩ => ?_)
  refine wpAny_Slice (thn (po_none.run pins s1 σ G1 (fun o G => o = none ∧ G = G1) J1 ⟨rfl, rfl⟩) fun vl s2 ⟨l, G2, J2, pl, el, e2⟩ => ?_)
  subst el e2
  have up : PO X (some eh) (tPart th) := po_some hh
  refine thn (up.run pins s2 σ G2 _ J2 q1) fun vu s3 ⟨u, G3, J3, pu, a, xs, h, ex, eu, hx, hl, q2⟩ => ?_
  subst ex eu
  cases r0
  have back : PO X (some (.UnaryOp .USub (.Constant (.int 1) c p1) p2)) (tPart (tUn (rU fun i => .int (-i)) (tC (.int 1)))) := po_some (pe_un un_neg pe_int)
  refine thn (back.run pins s3 σ G3 (fun o G => o = some (-1) ∧ G = G3) J3 ⟨1, rfl, -1, rfl, rfl, rfl⟩) fun vs s4 ⟨o, G4, J4, ps, eo, e4⟩ => ?_
  subst eo e4
  have J5 : Inv X pins σ G4 { s4 with heap := s4.heap.push { cls := .type "slice", data := .fields #[vl, vu, vs] } } := J4.kept (t' := s4.toks) fun b ob z => Heap.get?_push_of_some _ z
  obtain ⟨its, rel, tt, few⟩ := J5.tuple hx
  have len := rel.length
  show wpAny (model X.prog X.w) X.A (subscriptTail e (.Slice none (some eh) (some (.UnaryOp .USub (.Constant (.int 1) c p1) p2)) p3) (.ref a) (.ref s4.heap.objs.size)) (EP X pins σ Q) X.xe { s4 with heap := s4.heap.push { cls := .type "slice", data := .fields #[vl, vu, vs] } }
  refine tail_any (ops := [.ref a, .ref s4.heap.objs.size]) tt.typeIs
    PyProof.Rows.slot_tuple_getitem.lookup ?_ (by with_unfolding_all rfl)
  refine item_back (h := h) tt (Heap.IsSliceOf.new _ vl vu vs) pl pu ps (by rw [List.size_toArray]; omega) (by rw [List.size_toArray]; omega) ?_
  refine ⟨.ref _, _, J5.laid (t' := s4.toks) (o := .tup (xs.drop (h + 1)).reverse) (fun b ob z => Heap.get?_push_of_some _ z) (Nat.le_refl _) ?_, rfl, q2 _ (J5.hok.fresh (Nat.le_refl _))⟩
  refine ⟨by rw [List.length_reverse, List.length_drop]; omega, (its.drop (h + 1)).reverse, ?_, IsTup.new _ _⟩
  exact (rel.drop (h + 1)).reverse
end
end Tb
/-! ### xs.extend(t) of a tuple -/
namespace Tb
open PySem PySem.Spec PyProof.Rows L2
def rExtT (K : PySem.W.Frag) : V → List V → Hp → VK → Prop := fun x vs H Q => ∃ (l b : Addr) (xs zs : List V), x = .ref l ∧ vs = [.ref b] ∧ H l = some (.lst xs) ∧ SqT K H b zs ∧ xs.length + zs.length ≤ sizeLine ∧ Q .non (upd H l (.lst (xs ++ zs)))
theorem ext_any (l : Addr) (mine : Array Value) (n : Nat) (b : Addr) (more : Array Value) (n2 : Nat) (dd : Option Addr) (sl : Array (Option Value)) (room : ¬(!mine.isEmpty && Builtin.List.listTooLong (mine.size + more.size)) = true) (few : mine.size ≤ sizeLine) (sum : mine.size + more.size ≤ sizeLine + 1) :
    Meets (Builtin.«list.extend» ⟨[.ref l, .ref b], []⟩) (fun _ R s => s.heap.get? l = some { cls := .type "list", dict := none, data := .seq mine n, slots := #[] } ∧ s.heap.get? b = some { cls := .type "tuple", dict := dd, data := .seq more n2, slots := sl } ∧
      R (.ok (.ret Value.none)) { s with heap := s.heap.update l (Obj.mapSeq fun x => x ++ more), toks := s.toks }) :=
  .of_wp fun prog w A R s h => by
    obtain ⟨hp, gn, dr, tk, os⟩ := s
    obtain ⟨atL, atB, fin⟩ := h
    have g1 := AutoSeq1.idx_int
    have g2 := AutoSeq1.sub_tuple_tuple
    have g3 := AutoSeq1.sub_list_list
    have g4 := AutoSeq1.sub_tuple_list
    have g5 := AutoSeq1.sub_list_tuple
    have szz : (mine ++ more).size ≤ sizeLine + 1 := by rw [Array.size_append]; exact sum
    wp_walk using (wpAny_updateSeq atL rfl (hz := few) (_hz' := szz)), wpAny_loadPart' atL, wpAny_loadPart' atB
    exact ⟨_, rfl, fin⟩
theorem mt_extT {X : Cx} : MtM X "list.extend" (rExtT X.K) := by
  intro pins s σ G0 x vs v us Q J rx rv h
  obtain ⟨l, b, xs, zs, rfl, rfl, hL, hB, few, q⟩ := h
  cases rx
  obtain ⟨u, rfl, ru⟩ := rv.one
  cases ru
  obtain ⟨_, itx, n, relx, lx, atx⟩ := J.lstM hL
  obtain ⟨itz, relz, ⟨⟨ocl, odi, oda, osl⟩, hat, hcl, cnt, hda⟩, _⟩ := J.tuple hB
  dsimp only at hcl hda
  subst hcl hda
  have lz := relz.length
  have sum : itx.toArray.size + itz.toArray.size ≤ sizeLine := by
    rw [List.size_toArray, List.size_toArray]
    omega
  have room : ¬ (!itx.toArray.isEmpty && Builtin.List.listTooLong (itx.toArray.size + itz.toArray.size)) = true := by
    rw [notLongL sum, Bool.and_false]
    exact Bool.false_ne_true
  refine call_meets PySem.F.slot_list_extend ⟨_, atx, rfl⟩
    PySem.F.entry_list_extend (PySem.F.args_list_extend_2 _ _)
    (ext_any l itx.toArray n b itz.toArray cnt odi osl room (by omega) (by omega)) ⟨atx, hat, ?_⟩
  refine ⟨.non, _, J.lset (its' := itx ++ itz) hL atx (by simp) (relx.append relz) ?_, rfl, q⟩
  rw [List.length_append]
  exact few
end Tb
/-! ### tuples of which it is known that they are plain: rules that make them, and their methods -/
namespace Tx
open PySem PySem.Spec PyProof.Rows L2
/-- a plain tuple -/
def TX (H : Hp) (a : Addr) (xs : List V) : Prop := ∃ ob, H a = some (.frz ob (.tup xs)) ∧ ob.dict = none
theorem TX.same {H H' : Hp} {a : Addr} {xs : List V} (h : TX H a xs) (s : Same H H') : TX H' a xs := let ⟨ob, e, d⟩ := h; ⟨ob, s _ _ e, d⟩
theorem TX.sq {K : PySem.W.Frag} {H : Hp} {a : Addr} {xs : List V} (h : TX H a xs) : SqT K H a xs := let ⟨ob, e, _⟩ := h; .inl (.inr ⟨ob, e⟩)
theorem TX.there {H : Hp} {a : Addr} {xs : List V} (h : TX H a xs) : ∃ ob, H a = some (.frz ob (.tup xs)) := let ⟨ob, e, _⟩ := h; ⟨ob, e⟩
theorem same_new {p : Addr} {H : Hp} {o : HO} (n : H p = none) : Same H (L2.upd H p o) := fun b u h => by rw [upd_ne (ne_of_none h n)]; exact h
section
variable {X : Cx}
/-- a new plain tuple -/
theorem laid_tup {pins : List (Addr × Obj)} {σ : L2.St} {H : Hp} {s : Shared} {xs : List V} {us : List Value} (I : Inv X pins σ H s) (rel : Vals xs us) (few : xs.length ≤ sizeLine) :
    ∃ H2, Inv X pins σ H2 { s with heap := s.heap.push { cls := .type "tuple", data := .seq us.toArray } } ∧ H s.heap.objs.size = none ∧ Same H H2 ∧ TX H2 s.heap.objs.size xs := by
  have fresh := I.hok.fresh (Nat.le_refl s.heap.objs.size)
  have J := I.laid (t' := s.toks) (o := .frz { cls := .type "tuple", data := .seq us.toArray } (.tup xs)) (h' := s.heap.push { cls := .type "tuple", data := .seq us.toArray }) (fun b ob q => Heap.get?_push_of_some _ q) (Nat.le_refl _)
    ⟨Heap.get?_push_size _ rfl, few, us, rel, IsTup.new _ _⟩
  exact ⟨_, J, fresh, same_new fresh, _, upd_same, rfl⟩
/-- (a, b, ..) -/
def tTupX (t : TA) : TE := fun σ H Q => t σ H fun xs H1 => xs.length ≤ sizeLine ∧ ∀ p H2, H1 p = none → Same H1 H2 → TX H2 p xs → Q (.ref p) H2
theorem pe_tupX {es : List Expr} {pos : Pos} {x1} {t : TA} (h : PA X es t) : PE X (.Tuple es x1 pos) (tTupX t) := by
  refine ⟨fun pins s0 σ G0 Q J0 q0 => ?_⟩
  refine wpAny_Tuple_spliced (thn (h.run pos pins s0 σ G0 _ J0 q0) fun us s1 ⟨xs, G1, J1, rel, few, q⟩ => ⟨by rw [← rel.length]; exact few, ?_⟩)
  obtain ⟨G2, J2, fresh, same, tx⟩ := laid_tup J1 rel few
  exact ⟨.ref s1.heap.objs.size, G2, J2, rfl, q _ _ fresh same tx⟩
/-- t + u -/
def rCatX : R2 := fun x y H Q => ∃ a b xs ys, x = .ref a ∧ y = .ref b ∧ TX H a xs ∧ TX H b ys ∧ xs.length + ys.length ≤ sizeLine ∧ ∀ p H2, Same H H2 → TX H2 p (xs ++ ys) → Q (.ref p) H2
theorem op_catX : OpR X (binaryOp .Add) rCatX := by
  intro pins s σ H x y v u Q J rx ry h
  obtain ⟨a, b, xs, ys, rfl, rfl, ha, hb, few, q⟩ := h
  by_cases ex : xs = []
  · subst ex
    refine op_catA pins s σ H _ _ v u Q J rx ry ⟨a, b, [], ys, rfl, rfl, ha.sq, hb.sq, few, fun _ => q b H (Same.refl H) hb, fun e => absurd rfl e, fun e => absurd rfl e⟩
  · cases rx
    cases ry
    obtain ⟨us, r1, p1, _⟩ := J.tuple (ha.sq (K := X.K))
    obtain ⟨ws, r2, p2, _⟩ := J.tuple (hb.sq (K := X.K))
    refine HT.cat_tup p1 p2 (fun z => ex (r1.nil_iff.mp z)) (fun z => ?_) (fun z => ?_) (by rw [← r1.length, ← r2.length]; exact few)
    · have ey := r2.nil_iff.mp z
      subst ey
      exact ⟨.ref a, H, J, rfl, q a H (Same.refl H) (by rw [List.append_nil]; exact ha)⟩
    · obtain ⟨G2, J2, fresh, same, tx⟩ := laid_tup J (r1.append r2) (by rw [List.length_append]; exact few)
      exact ⟨.ref s.heap.objs.size, G2, J2, rfl, q _ _ same tx⟩
/-- t + u, what is new is plain -/
def rCatY (K : PySem.W.Frag) : R2 := fun x y H Q => ∃ a b xs ys, x = .ref a ∧ y = .ref b ∧ SqT K H a xs ∧ SqT K H b ys ∧ xs.length + ys.length ≤ sizeLine ∧
  (xs = [] → Q (.ref b) H) ∧ (xs ≠ [] → ys = [] → Q (.ref a) H) ∧ ∀ p H2, H p = none → Same H H2 → TX H2 p (xs ++ ys) → Q (.ref p) H2
theorem op_catY : OpR X (binaryOp .Add) (rCatY X.K) := by
  intro pins s σ H x y v u Q J rx ry h
  obtain ⟨a, b, xs, ys, rfl, rfl, ha, hb, few, q0, q1, q2⟩ := h
  by_cases ex : xs = []
  · subst ex
    exact op_catA pins s σ H _ _ v u Q J rx ry ⟨a, b, [], ys, rfl, rfl, ha, hb, few, q0, fun e => absurd rfl e, fun e => absurd rfl e⟩
  by_cases ey : ys = []
  · subst ey
    exact op_catA pins s σ H _ _ v u Q J rx ry ⟨a, b, xs, [], rfl, rfl, ha, hb, few, fun e => absurd e ex, q1, fun _ e => absurd rfl e⟩
  · cases rx
    cases ry
    obtain ⟨us, r1, p1, _⟩ := J.tuple ha
    obtain ⟨ws, r2, p2, _⟩ := J.tuple hb
    refine HT.cat_tup p1 p2 (fun z => ex (r1.nil_iff.mp z)) (fun z => absurd (r2.nil_iff.mp z) ey) (fun _ => ?_) (by rw [← r1.length, ← r2.length]; exact few)
    obtain ⟨G2, J2, fresh, same, tx⟩ := laid_tup J (r1.append r2) (by rw [List.length_append]; exact few)
    exact ⟨.ref s.heap.objs.size, G2, J2, rfl, q2 _ _ fresh same tx⟩
/-- t[lo:hi] -/
def rSlX : V → Option Int → Option Int → Hp → VK → Prop := fun x lo hi H Q => ∃ a xs, x = .ref a ∧ TX H a xs ∧ ∀ p H2, Same H H2 → TX H2 p (cutV xs lo hi) → Q (.ref p) H2
theorem cut_whole {xs : List V} {lo hi : Option Int} (h : HT.sIx xs.length 0 lo = 0 ∧ HT.sIx xs.length xs.length hi = xs.length) : cutV xs lo hi = xs := by
  unfold cutV
  rw [h.1, h.2, List.drop_zero, Nat.sub_zero, List.take_length]
theorem sl_tupX : SlR X rSlX := by
  intro pins s σ H x v vl vu lo hi sl Q J rx hs pl pu h
  obtain ⟨a, xs, rfl, hx, q⟩ := h
  cases rx
  obtain ⟨us, rel, tt, few⟩ := J.tuple (hx.sq (K := X.K))
  have len : us.toArray.size = xs.length := by rw [List.size_toArray]; exact rel.length.symm
  refine ⟨"tuple", _, PyProof.Rows.slot_tuple_getitem.lookup, tt.typeIs, ?_⟩
  by_cases whole : HT.sIx xs.length 0 lo = 0 ∧ HT.sIx xs.length xs.length hi = xs.length
  · refine getItem_tuple_whole tt hs pl pu (by rw [len]; exact whole) ⟨.ref a, H, J, rfl, q a H (Same.refl H) ?_⟩
    rw [cut_whole whole]
    exact hx
  · refine HT.getItem_tuple_cut tt hs pl pu (by rw [len]; exact whole) ?_ (by rw [len]; exact few)
    rw [len]
    obtain ⟨G2, J2, fresh, same, tx⟩ := laid_tup J ((rel.drop (HT.sIx xs.length 0 lo)).take (HT.sIx xs.length xs.length hi - HT.sIx xs.length 0 lo)) (Nat.le_trans (cutV_length xs lo hi) few)
    exact ⟨.ref s.heap.objs.size, G2, J2, rfl, q _ _ same tx⟩
/-- tuple(xs) of a list -/
theorem call_tupX : CallR X (.type "tuple") (fun xs H Q => ∃ p ys, xs = [.ref p] ∧ SqL X.K H p ys ∧ ∀ q H2, H q = none → Same H H2 → TX H2 q ys → Q (.ref q) H2) := by
  intro pins s σ H xs us Q J r h
  obtain ⟨p, ys, rfl, hq, q⟩ := h
  obtain ⟨u, rfl, rx⟩ := vals1 r
  cases rx
  obtain ⟨its, rel, pl, few⟩ := J.list hq
  have len := rel.length
  refine call_tuple_list pl.isList (fun h2 keep => ?_) (by simp only [List.size_toArray]; omega)
  have J1 : Inv X pins σ H { s with heap := h2 } := J.kept (t' := s.toks) keep
  obtain ⟨G2, J2, fresh, same, tx⟩ := laid_tup J1 rel few
  exact ⟨.ref h2.objs.size, G2, J2, rfl, q _ _ fresh same tx⟩
/-- t.name(..) -/
def tTM (r : V → List V → Hp → VK → Prop) (to : TE) (t : TA) : TE := fun σ H Q => to σ H fun x H1 => (∃ a xs, x = .ref a ∧ TX H1 a xs) ∧ t σ H1 fun vs H2 => r x vs H2 Q
variable {o e : Expr} {es : List Expr} {name : Str} {id : String} {apos cpos : Pos} {r : V → List V → Hp → VK → Prop} {to : TE} {t : TA}
theorem pe_tm (slot : Slot "tuple" name id) (hty : typeOf (.builtin id) = pure (.type "method_descriptor")) (hm : MtR X id r) (ho : PE X o to) (ha : PA X (e :: es) t)
    (hbase : attributeBase o name X.env (eval o X.env) = eval o X.env := by rfl)
    (few : ((backTo cpos (starEach (e :: es) X.env)).all (fun x => !x.1) && (backToKw cpos (keywordEach [] X.env)).all (fun x => x.1.isSome)
      && decide ((e :: es).length + ([] : List Keyword).length + (if ([] : List Keyword).isEmpty then 0 else 1) < 30)) = true := by rfl)
    (line : (apos.endLine == cpos.line) = true := by rfl) (st : starEach (e :: es) X.env = (false, eval e X.env) :: starEach es X.env := by rfl) (plain : (backTo cpos (starEach es X.env)).any (·.1) = false := by rfl) :
    PE X (.Call (.Attribute o name apos) (e :: es) [] cpos) (tTM r to t) := by
  refine ⟨fun pins s0 σ G0 Q J0 q0 => ?_⟩
  refine wpAny_Call_method_late hbase few line rfl (thn (ho.run pins s0 σ G0 _ J0 q0) fun v s1 ⟨x, G1, J1, r1, ⟨a, xs, ex, tx⟩, q1⟩ => ?_)
  subst ex
  obtain rfl : v = Value.ref a := r1
  obtain ⟨ob, at_, nod⟩ := tx
  obtain ⟨here, _, us, rel, tt⟩ := J1.hok a _ at_
  refine ⟨"tuple", id, F.plainAttrs_tuple, slot, hty, tt.typeIs, fun b eb => ?_, ?_⟩
  · cases eb
    exact ⟨ob, here, nod⟩
  have run := ha.run cpos pins s1 σ G1 _ J1 q1
  rw [st] at run ⊢
  refine Calls.callWith_builtin (by show (false || (backTo cpos (starEach es X.env)).any (·.1)) = false; rw [plain]; rfl) (Calls.evalArgs_plain ?_)
  exact thn run fun us2 s2 ⟨vs, G2, J2, r2, q2⟩ => hm pins s2 σ G2 (.ref a) vs _ us2 Q J2 rfl r2 q2
end
end Tx
/-! ### the dice: the law's own drawn numbers -/
namespace Pr
open PySem PySem.Spec PyProof.Rows L2
/-- all that was tracked, but the object at d, is as it was -/
def Kp (d : Addr) (H H' : Hp) : Prop := ∀ b o, b ≠ d → H b = some o → H' b = some o
theorem Kp.refl (d : Addr) (H : Hp) : Kp d H H := fun _ _ _ h => h
theorem Kp.trans {d : Addr} {H H1 H2 : Hp} (a : Kp d H H1) (b : Kp d H1 H2) : Kp d H H2 := fun c o n h => b c o n (a c o n h)
theorem Kp.upd {d : Addr} {H : Hp} {o : HO} : Kp d H (upd H d o) := fun b u n h => by rw [upd_ne n]; exact h
theorem Kp.new {d p : Addr} {H : Hp} {o : HO} (n : H p = none) : Kp d H (L2.upd H p o) := fun b u _ h => by rw [upd_ne (ne_of_none h n)]; exact h
theorem Kp.same {d : Addr} {H H' : Hp} (s : Same H H') : Kp d H H' := fun b o _ h => s b o h
theorem Same.new {p : Addr} {H : Hp} {o : HO} (n : H p = none) : Same H (L2.upd H p o) := fun b u h => by rw [upd_ne (ne_of_none h n)]; exact h
/-- d is new and then written -/
theorem Kp.over {d : Addr} {H H1 H2 : Hp} (n : H d = none) (s : Same H H1) (k : Kp d H1 H2) : Same H H2 := fun b o h => k b o (ne_of_none h n) (s b o h)
theorem Kp.seq {K : PySem.W.Frag} {d a : Addr} {H H' : Hp} {xs : List V} (k : Kp d H H') (n : a ≠ d) (h : SqL K H a xs) : SqL K H' a xs := by
  rcases h with (h | ⟨o, h⟩) | h
  · exact .inl (.inl (k _ _ n h))
  · exact .inl (.inr ⟨o, k _ _ n h⟩)
  · exact .inr h
/-- the dice that stand at d: what is left of the cell's number, the seed, the number of draws (at most n) -/
structure Dice (H : Hp) (d : Addr) (n : Nat) : Prop where
  at_ : ∃ x y c : Int, H d = some (.lst [.int x, .int y, .int c]) ∧ 0 ≤ x ∧ x < 2 ^ 400 ∧ 0 ≤ y ∧ y < 2 ^ 40 ∧ 0 ≤ c ∧ c ≤ n
  few : n ≤ 1000000
theorem Dice.kept {H H' : Hp} {d : Addr} {n : Nat} (D : Dice H d n) (s : ∀ o, H d = some o → H' d = some o) : Dice H' d n := by
  obtain ⟨⟨x, y, c, e, r⟩, f⟩ := D
  exact ⟨⟨x, y, c, s _ e, r⟩, f⟩
theorem Dice.same {H H' : Hp} {d : Addr} {n : Nat} (D : Dice H d n) (s : Same H H') : Dice H' d n := D.kept fun o e => s _ o e
theorem Dice.more {H : Hp} {d : Addr} {n m : Nat} (D : Dice H d n) (h : n ≤ m) (hm : m ≤ 1000000) : Dice H d m := by
  obtain ⟨⟨x, y, c, e, r1, r2, r3, r4, r5, r6⟩, f⟩ := D
  exact ⟨⟨x, y, c, e, r1, r2, r3, r4, r5, by omega⟩, hm⟩
theorem Dice.there {H : Hp} {d : Addr} {n : Nat} (D : Dice H d n) : ∃ xs, H d = some (.lst xs) := by
  obtain ⟨⟨x, y, c, e, _⟩, _⟩ := D
  exact ⟨_, e⟩
def spDice (K : PySem.W.Frag) : Sp := fun vs H Q _ => ∃ (a : Addr) (ns : List Int) (i : Nat), vs = [.ref a, .int i] ∧ SqL K H a (ns.map V.int) ∧ i < 64 ∧
  ∀ (d : Addr) (H' : Hp), H d = none → Same H H' → Dice H' d 0 → Q (.ref d) H'
def spRoll : Sp := fun vs H Q _ => ∃ (d : Addr) (t : Int) (n : Nat), vs = [.ref d, .int t] ∧ Dice H d n ∧ n < 1000000 ∧ 0 < t ∧ t < 2 ^ 400 ∧
  ∀ (r : Int) (o : HO), 0 ≤ r → r < t → Dice (upd H d o) d (n + 1) → Q (.int r) (upd H d o)
def spPick (K : PySem.W.Frag) : Sp := fun vs H Q _ => ∃ (d p : Addr) (n : Nat) (xs : List V), vs = [.ref d, .ref p] ∧ p ≠ d ∧ (SqL K H p xs ∨ SqT K H p xs) ∧ xs ≠ [] ∧ xs.length ≤ 1000 ∧ Dice H d n ∧ n < 1000000 ∧
  ∀ (v : V) (o : HO), v ∈ xs → Dice (upd H d o) d (n + 1) → Q v (upd H d o)
def spMixed (K : PySem.W.Frag) : Sp := fun vs H Q _ => ∃ (d p : Addr) (n : Nat) (xs : List V), vs = [.ref d, .ref p] ∧ p ≠ d ∧ SqL K H p xs ∧ xs.length ≤ 1000 ∧ Dice H d n ∧ n + xs.length < 1000000 ∧
  ∀ (q : Addr) (ys : List V) (H' : Hp), q ≠ d → H q = none → Kp d H H' → H' q = some (.lst ys) → ys.Perm xs → Dice H' d (n + xs.length) → Q (.ref q) H'
theorem fmod_pos {i j : Int} (h : 0 < j) : 0 ≤ i.fmod j ∧ i.fmod j < j := ⟨Int.fmod_nonneg_of_pos _ h, Int.fmod_lt_of_pos _ h⟩
theorem emod_pos {i j : Int} (h : 0 < j) : 0 ≤ i % j ∧ i % j < j := ⟨Int.emod_nonneg _ (by omega), Int.emod_lt_of_pos _ h⟩
theorem c10 {k : Nat} (h : k ≤ 1000000) : CPow 10 (k : Int) := ⟨by omega, by omega, by decide⟩
end Pr
namespace Pr
open PySem PySem.Spec PyProof.Rows L2
/-! ### the text by places -/
def topS (i : Nat) : Stmt := PySem.Challenge.pw_munchbehind_k05_whole_trees_cut_and_fill.main.body.getD i (.Pass ⟨0, 0, 0, 0⟩)
abbrev sInteger : Stmt := topS 9
abbrev sCount : Stmt := topS 10
abbrev sName : Stmt := topS 11
abbrev sAre : Stmt := topS 16
abbrev sWhole : Stmt := topS 17
abbrev sDice : Stmt := topS 20
abbrev sRoll : Stmt := topS 21
abbrev sPick : Stmt := topS 22
abbrev sMixed : Stmt := topS 23
abbrev sEndL : Stmt := topS 24
abbrev sDrawn : Stmt := topS 25
abbrev sArs : Stmt := topS 26
abbrev sDCtx : Stmt := topS 27
abbrev sPut : Stmt := topS 28
abbrev sTreeR : Stmt := topS 29
abbrev sRowR : Stmt := topS 30
abbrev sLaw : Stmt := topS 31
/-- the methods of the class -/
def inS (i : Nat) : Stmt := match topS 18 with
  | .ClassDef _ _ _ body _ _ _ _ _ _ _ => body.getD i (.Pass ⟨0, 0, 0, 0⟩)
  | _ => .Pass ⟨0, 0, 0, 0⟩
abbrev mInit : Stmt := inS 0
abbrev mIsTree : Stmt := inS 6
abbrev mIsCtx : Stmt := inS 7
abbrev mEnd : Stmt := inS 8
abbrev mSub : Stmt := inS 9
abbrev mReplaced : Stmt := inS 13
abbrev mCut : Stmt := inS 14
abbrev mFilled : Stmt := inS 15
abbrev mChTree : Stmt := inS 25
abbrev mChPlace : Stmt := inS 26
abbrev mChFill : Stmt := inS 27
abbrev m_End : Stmt := inS 28
/-- the built-in names that the module leaves alone -/
structure Free (mg : Str → Option Value) : Prop where
  len : mg "len" = none
  int : mg "int" = none
  abs : mg "abs" = none
  max : mg "max" = none
  min : mg "min" = none
  list : mg "list" = none
  range : mg "range" = none
  isi : mg "isinstance" = none
  bool : mg "bool" = none
  tuple : mg "tuple" = none
  str : mg "str" = none
  dict : mg "dict" = none
  sorted : mg "sorted" = none
  all : mg "all" = none
  sum : mg "sum" = none
end Pr
namespace Pr
open PySem PySem.Spec PyProof.Rows L2
theorem dice_end (l g : Int) (b : Int) {i : Nat} (hi : i < 64) (hb : 0 ≤ b ∧ b ≤ 1) :
    0 ≤ l.fmod (10 ^ (60 : Int).toNat * 10 ^ (60 : Int).toNat) ∧ l.fmod (10 ^ (60 : Int).toNat * 10 ^ (60 : Int).toNat) < 2 ^ 400 ∧
    0 ≤ g % 2147483563 * 41 + 613 * (i : Int) + 17 * b + 7 ∧ g % 2147483563 * 41 + 613 * (i : Int) + 17 * b + 7 < 2 ^ 40 ∧ (0 : Int) ≤ 0 ∧ (0 : Int) ≤ (0 : Nat) := by
  have h1 := fmod_pos (i := l) (j := 10 ^ (60 : Int).toNat * 10 ^ (60 : Int).toNat) (by decide +kernel)
  have h2 : (10 ^ (60 : Int).toNat * 10 ^ (60 : Int).toNat : Int) < 2 ^ 400 := by decide +kernel
  have h3 := emod_pos (i := g) (j := 2147483563) (by decide)
  refine ⟨h1.1, Int.lt_trans h1.2 h2, by omega, by omega, by omega, by omega⟩
section
variable {P : Program} {w : World} {K : PySem.W.Frag} {mg : Str → Option Value} {base : Heap}
theorem scDice : FnScope ["script", "spot", "cell", "great", "left"] ["script", "spot"] (defScope sDice) := ⟨rfl, rfl, rfl, by decide +kernel, rfl, by decide +kernel, by decide +kernel⟩
theorem ok_dice {f : Addr} {fd : FuncData} (F : Fun K "_law_dice" "_law_dice" sDice f fd) (T : Free mg) : FnOk P w K mg base CX0 1 f fd ["script", "spot"] (spDice K) := by
  refine F.ok scDice (fun vs H Q E h => ?_) (fun cdv A outer s H vs Q E hr h => ?_)
  · obtain ⟨a, ns, i, rfl, _⟩ := h
    rfl
  · obtain ⟨a, ns, i, rfl, hS, hi, k⟩ := h
    refine ⟨_, pss_cons (ps_set (i := 2) scDice.nd rfl (.inl rfl) (pe_ifExp (pt_cmpR op_lt (pv 1) (pe_callB call_len_seq (by rfl) T.len PySem.boot_len (pa_cons (pv 0) pa_nil)) (nomark _))
        (pe_callTy call_int1 (by rfl) T.int (by decide +kernel) (pa_cons (pe_ix ix_list (pv 0) (pv 1) (fun _ _ => rfl)) pa_nil)) (pe_op op_add (pe_op op_mul pe_int (pv 1)) pe_int)))
      (pss_cons (ps_set (i := 3) scDice.nd rfl (.inl rfl) (pe_op op_modN (pe_callB call_abs (by rfl) T.abs (by decide +kernel) (pa_cons (pv 2) pa_nil)) (pe_op op_pow pe_int pe_int)))
      (pss_cons (ps_set (i := 4) scDice.nd rfl (.inl rfl) (pe_callB (call_max2 rfl) (by rfl) T.max (by decide +kernel) (pa_cons pe_int (pa_cons (pe_op op_sub (pe_callB call_abs (by rfl) T.abs (by decide +kernel) (pa_cons (pv 2) pa_nil)) (pe_op op_pow pe_int pe_int)) pa_nil))))
      (pss_one (ps_ret (pe_lst (pa_cons (pe_op op_modN (pv 4) (pe_op op_mulW (pe_op op_pow pe_int pe_int) (pe_op op_pow pe_int pe_int)))
        (pa_cons (pe_op op_add (pe_op op_add (pe_op op_add (pe_op op_mul (pe_op op_mod (pv 3) pe_int) pe_int) (pe_op op_mul pe_int (pv 1)))
          (pe_op op_mul pe_int (pe_callTy call_int1 (by rfl) T.int (by decide +kernel) (pa_cons (pe_cmpR op_lt (pv 2) pe_int (nomark _)) pa_nil)))) pe_int) (pa_cons pe_int pa_nil)))))))), ?_⟩
    refine ⟨_, rfl, _, rfl, a, _, rfl, .inl hS, _, _, rfl, rfl, _, rfl, ?_⟩
    refine ite2 (fun c => ?_) (fun c => ?_)
    · have hlt : i < ns.length := by
        have c' := of_decide_eq_true c
        rw [List.length_map] at c'
        omega
      have g : (ns.map V.int)[i]? = some (.int ns[i]) := by
        rw [List.getElem?_map, List.getElem?_eq_getElem hlt]
        rfl
      refine ⟨_, rfl, _, rfl, a, _, _, _, rfl, rfl, hS, atI_nat g, .inl ⟨_, rfl, ?_⟩⟩
      refine ⟨_, rfl, _, rfl, 10, 59, rfl, rfl, c10 (k := 59) (by decide), _, _, rfl, rfl, (by dsimp only; decide +kernel), ?_⟩
      refine ⟨_, rfl, _, rfl, 10, 17, rfl, rfl, c10 (k := 17) (by decide), _, _, rfl, rfl, _, _, rfl, ?_⟩
      refine ⟨_, rfl, 10, 60, rfl, rfl, c10 (k := 60) (by decide), 10, 60, rfl, rfl, c10 (k := 60) (by decide), _, _, rfl, rfl, wide_mul (a := 400) (b := 400) (by decide +kernel) (by decide +kernel) (by decide) (by decide) (by decide), _, _, rfl, rfl, (by dsimp only; decide +kernel), ?_⟩
      refine ⟨_, rfl, _, _, rfl, rfl, (by dsimp only; decide), _, _, rfl, rfl, .inr ⟨by decide, by decide⟩, _, rfl, _, _, rfl, rfl, .inl ⟨by decide, by decide⟩, _, _, rfl, rfl, _, rfl, _, _, rfl, rfl, .inr ⟨_, rfl, ?_⟩⟩
      refine ⟨_, _, rfl, rfl, .inl ⟨by decide, by decide⟩, _, _, rfl, rfl, _, _, rfl, rfl, (by show 3 ≤ sizeLine; decide), fun d hd => ?_⟩
      refine k d _ hd (Same.new hd) ⟨⟨_, _, 0, upd_same, ?_⟩, by decide⟩
      refine dice_end _ _ _ hi ?_
      split <;> omega
    · refine ⟨_, rfl, _, _, rfl, rfl, .inl ⟨by decide, by decide⟩, _, _, rfl, rfl, ?_⟩
      refine ⟨_, rfl, _, rfl, 10, 59, rfl, rfl, c10 (k := 59) (by decide), _, _, rfl, rfl, (by dsimp only; decide +kernel), ?_⟩
      refine ⟨_, rfl, _, rfl, 10, 17, rfl, rfl, c10 (k := 17) (by decide), _, _, rfl, rfl, _, _, rfl, ?_⟩
      refine ⟨_, rfl, 10, 60, rfl, rfl, c10 (k := 60) (by decide), 10, 60, rfl, rfl, c10 (k := 60) (by decide), _, _, rfl, rfl, wide_mul (a := 400) (b := 400) (by decide +kernel) (by decide +kernel) (by decide) (by decide) (by decide), _, _, rfl, rfl, (by dsimp only; decide +kernel), ?_⟩
      refine ⟨_, rfl, _, _, rfl, rfl, (by dsimp only; decide), _, _, rfl, rfl, .inr ⟨by decide, by decide⟩, _, rfl, _, _, rfl, rfl, .inl ⟨by decide, by decide⟩, _, _, rfl, rfl, _, rfl, _, _, rfl, rfl, .inr ⟨_, rfl, ?_⟩⟩
      refine ⟨_, _, rfl, rfl, .inl ⟨by decide, by decide⟩, _, _, rfl, rfl, _, _, rfl, rfl, (by show 3 ≤ sizeLine; decide), fun d hd => ?_⟩
      refine k d _ hd (Same.new hd) ⟨⟨_, _, 0, upd_same, ?_⟩, by decide⟩
      refine dice_end _ _ _ hi ?_
      split <;> omega
end
end Pr
namespace Pr
open PySem PySem.Spec PyProof.Rows L2
theorem div_le {x t : Int} (h0 : 0 ≤ x) (ht : 0 < t) : 0 ≤ x / t ∧ x / t ≤ x := ⟨Int.ediv_nonneg h0 (by omega), Int.ediv_le_self _ h0⟩
theorem mod2 {x y : Int} (h : 0 ≤ x) (a : 0 < y) : 0 ≤ x.fmod y ∧ x.fmod y < y := fmod_pos a
section
variable {P : Program} {w : World} {K : PySem.W.Frag} {mg : Str → Option Value} {base : Heap}
theorem scRoll : FnScope ["dice", "total", "found", "one", "two"] ["dice", "total"] (defScope sRoll) := ⟨rfl, rfl, rfl, by decide +kernel, rfl, by decide +kernel, by decide +kernel⟩
theorem ok_roll {f : Addr} {fd : FuncData} (F : Fun K "_law_roll" "_law_roll" sRoll f fd) (T : Free mg) : FnOk P w K mg base CX0 1 f fd ["dice", "total"] spRoll := by
  refine F.ok scRoll (fun vs H Q E h => ?_) (fun cdv A outer s H vs Q E hr h => ?_)
  · obtain ⟨d, t, n, rfl, _⟩ := h
    rfl
  · obtain ⟨d, t, n, rfl, ⟨⟨x, y, c, e, x0, x1, y0, y1, c0, c1⟩, fw⟩, hn, t0, t1, k⟩ := h
    have sq : SqL K H d [.int x, .int y, .int c] := SqL.of e
    refine ⟨_, pss_cons (ps_if (pt_cmpR op_gt (pe_ix ix_list (pv 0) pe_int (fun _ _ => rfl)) pe_int (nomark _))
        (pss_cons (ps_set (i := 2) scRoll.nd rfl (.inl rfl) (pe_op op_modN (pe_callTy call_int1 (by rfl) T.int (by decide +kernel) (pa_cons (pe_ix ix_list (pv 0) pe_int (fun _ _ => rfl)) pa_nil)) (pv 1)))
        (pss_cons (ps_asg (pe_op op_fdivW (pe_ix ix_list (pv 0) pe_int (fun _ _ => rfl)) (pv 1)) (pg_sub (pv 0) pe_int set_list))
        (pss_one (ps_ret (pv 2))))) pss_nil)
      (pss_cons (ps_asg (pe_op op_add (pe_ix ix_list (pv 0) pe_int (fun _ _ => rfl)) pe_int) (pg_sub (pv 0) pe_int set_list))
      (pss_cons (ps_set (i := 3) scRoll.nd rfl (.inl rfl) (pe_op op_mod (pe_callTy call_int1 (by rfl) T.int (by decide +kernel)
        (pa_cons (pe_op op_add (pe_ix ix_list (pv 0) pe_int (fun _ _ => rfl)) (pe_op op_mul pe_int (pe_ix ix_list (pv 0) pe_int (fun _ _ => rfl)))) pa_nil)) pe_int))
      (pss_cons (ps_set (i := 4) scRoll.nd rfl (.inl rfl) (pe_op op_add (pe_op op_mul (pe_op op_mod (pe_callTy call_int1 (by rfl) T.int (by decide +kernel)
        (pa_cons (pe_op op_add (pe_op op_mul (pv 3) (pv 3)) (pe_op op_mul pe_int (pe_ix ix_list (pv 0) pe_int (fun _ _ => rfl)))) pa_nil)) pe_int) pe_int) (pv 3)))
      (pss_one (ps_ret (pe_op op_modN (pe_callTy call_int1 (by rfl) T.int (by decide +kernel) (pa_cons (pe_op op_fdiv (pv 4) pe_int) pa_nil)) (pv 1))))))), ?_⟩
    refine ⟨_, rfl, d, _, 0, _, rfl, rfl, sq, rfl, _, _, rfl, rfl, _, rfl, ite2 (fun cx => ?_) (fun cx => ?_)⟩
    · -- what is left of the cell's number
      have r := fmod_pos (i := x) t0
      have q := div_le x0 t0
      refine ⟨_, rfl, d, _, 0, _, rfl, rfl, sq, rfl, .inl ⟨_, rfl, _, rfl, _, _, rfl, rfl, (by dsimp only; omega), ?_⟩⟩
      refine ⟨_, rfl, d, _, 0, _, rfl, rfl, sq, rfl, _, rfl, _, _, rfl, rfl, wide_div (b := 400) t0 (by omega) (by decide) (by decide), _, rfl, d, _, 0, 0, rfl, rfl, e, rfl, _, rfl, ?_⟩
      exact k _ _ r.1 r.2 ⟨⟨_, _, _, upd_same, q.1, by omega, y0, y1, c0, by omega⟩, by omega⟩
    · refine ⟨_, rfl, d, _, 2, _, rfl, rfl, sq, rfl, _, _, rfl, rfl, _, rfl, d, _, 2, 2, rfl, rfl, e, rfl, ?_⟩
      have sq2 : SqL K (upd H d (.lst [.int x, .int y, .int (c + 1)])) d [.int x, .int y, .int (c + 1)] := SqL.of upd_same
      have m1 := emod_pos (i := y + 7901 * (c + 1)) (j := 2305843009213693907) (by decide)
      refine ⟨_, rfl, d, _, 1, _, rfl, rfl, sq2, rfl, _, rfl, d, _, 2, _, rfl, rfl, sq2, rfl, _, _, rfl, rfl, .inl ⟨by decide, by decide⟩, _, _, rfl, rfl, .inl ⟨_, rfl, _, _, rfl, rfl, (by dsimp only; decide), ?_⟩⟩
      have m2 := emod_pos (i := (y + 7901 * (c + 1)) % 2305843009213693907 * ((y + 7901 * (c + 1)) % 2305843009213693907) + 71 * (c + 1)) (j := 2305843009213693921) (by decide)
      refine ⟨_, rfl, _, rfl, _, _, rfl, rfl, .inl ⟨by omega, by omega⟩, _, rfl, d, _, 2, _, rfl, rfl, sq2, rfl, _, _, rfl, rfl, .inl ⟨by decide, by decide⟩, _, _, rfl, rfl, .inl ⟨_, rfl, _, _, rfl, rfl, (by dsimp only; decide), ?_⟩⟩
      refine ⟨_, _, rfl, rfl, .inl ⟨by omega, by omega⟩, _, rfl, _, _, rfl, rfl, ?_⟩
      refine ⟨_, rfl, _, _, rfl, rfl, ⟨by decide, by decide⟩, .inl ⟨_, rfl, _, rfl, _, _, rfl, rfl, (by dsimp only; omega), ?_⟩⟩
      exact k _ _ (fmod_pos t0).1 (fmod_pos t0).2 ⟨⟨_, _, _, upd_same, x0, x1, y0, y1, by omega, by omega⟩, by omega⟩
end
end Pr
namespace Pr
open PySem PySem.Spec PyProof.Rows L2
/-- the law's drawing defs, as they stand behind the top -/
structure Draws (K : PySem.W.Frag) (mg : Str → Option Value) (fR fP fM : Addr) (dR dP dM : FuncData) : Prop where
  FR : Fun K "_law_roll" "_law_roll" sRoll fR dR
  bR : Binds K dR ["dice", "total"] []
  gR : mg "_law_roll" = some (.ref fR)
  FP : Fun K "_law_pick" "_law_pick" sPick fP dP
  bP : Binds K dP ["dice", "items"] []
  gP : mg "_law_pick" = some (.ref fP)
  FM : Fun K "_law_mixed" "_law_mixed" sMixed fM dM
  bM : Binds K dM ["dice", "items"] []
  gM : mg "_law_mixed" = some (.ref fM)
theorem erase_perm {α : Type} : ∀ (l : List α) (i : Nat) (h : i < l.length), (l[i] :: l.eraseIdx i).Perm l
  | [], _, h => absurd h (Nat.not_lt_zero _)
  | a :: l, 0, _ => List.Perm.refl _
  | a :: l, i + 1, h => (List.Perm.swap a (l[i]'(Nat.lt_of_succ_lt_succ h)) (l.eraseIdx i)).trans (List.Perm.cons a (erase_perm l i (Nat.lt_of_succ_lt_succ h)))
section
variable {P : Program} {w : World} {K : PySem.W.Frag} {mg : Str → Option Value} {base : Heap} {fR fP fM : Addr} {dR dP dM : FuncData}
theorem scPick : FnScope ["dice", "items"] ["dice", "items"] (defScope sPick) := ⟨rfl, rfl, rfl, by decide +kernel, rfl, by decide +kernel, by decide +kernel⟩
theorem ok_pick (D : Draws K mg fR fP fM dR dP dM) (T : Free mg) : FnOk P w K mg base CX0 2 fP dP ["dice", "items"] (spPick K) := by
  have GR : FnOk P w K mg base CX0 1 fR dR ["dice", "total"] spRoll := ok_roll D.FR T
  refine D.FP.ok scPick (fun vs H Q E h => ?_) (fun cdv A outer s H vs Q E hr h => ?_)
  · obtain ⟨d, p, n, xs, rfl, _⟩ := h
    rfl
  · obtain ⟨d, p, n, xs, rfl, npd, hS, ne, few, di, hn, k⟩ := h
    refine ⟨_, pss_one (ps_ret (pe_ix ix_seq (pv 1) (pe_call GR hr (by rfl) D.gR D.FR.kp D.bR .nil pass0 (pa_cons (pv 0) (pa_cons (pe_callB call_len_seq (by rfl) T.len PySem.boot_len (pa_cons (pv 1) pa_nil)) pa_nil))) (fun _ _ => rfl))), ?_⟩
    have pos : 0 < xs.length := List.length_pos_iff.mpr ne
    refine ⟨_, rfl, _, rfl, _, rfl, p, xs, rfl, hS, d, _, n, rfl, di, hn, by omega, by omega, fun r o r0 r1 di' => ?_⟩
    have hlt : r.toNat < xs.length := by omega
    have g : atI xs r = some xs[r.toNat] := at_of (j := r.toNat) (by omega) (List.getElem?_eq_getElem hlt)
    have kp : Kp d H (upd H d o) := Kp.upd
    rcases hS with hS | hS
    · exact .inl ⟨p, xs, r, _, rfl, rfl, kp.seq npd hS, g, k _ o (List.getElem_mem hlt) di'⟩
    · have hT : SqT K (upd H d o) p xs := by
        rcases hS with (h | ⟨u, h⟩) | h
        · exact .inl (.inl (kp _ _ npd h))
        · exact .inl (.inr ⟨u, kp _ _ npd h⟩)
        · exact .inr h
      exact .inr (.inl ⟨p, xs, r, _, rfl, rfl, hT, g, k _ o (List.getElem_mem hlt) di'⟩)
theorem scMixed : FnScope ["dice", "items", "left", "found", "turn"] ["dice", "items"] (defScope sMixed) := ⟨rfl, rfl, rfl, by decide +kernel, rfl, by decide +kernel, by decide +kernel⟩
theorem ok_mixed (D : Draws K mg fR fP fM dR dP dM) (T : Free mg) : FnOk P w K mg base CX0 2 fM dM ["dice", "items"] (spMixed K) := by
  have GR : FnOk P w K mg base CX0 1 fR dR ["dice", "total"] spRoll := ok_roll D.FR T
  refine D.FM.ok scMixed (fun vs H Q E h => ?_) (fun cdv A outer s H vs Q E hr h => ?_)
  · obtain ⟨d, p, n, xs, rfl, _⟩ := h
    rfl
  · obtain ⟨d, p, n, xs, rfl, npd, hS, few, di, hn, k⟩ := h
    refine ⟨_, pss_cons (ps_par (i := 2) (j := 3) (by rfl) scMixed.nd rfl rfl (by decide) rfl rfl (pa_cons (pe_callTy call_list_of (by rfl) T.list (by decide +kernel) (pa_cons (pv 1) pa_nil)) (pa_cons (pe_lst pa_nil) pa_nil)) (by rfl))
      (pss_cons (ps_for PassesOwn.never rfl (pi_range1 rfl T.range (pa_cons (pe_callB call_len_seq (by rfl) T.len PySem.boot_len (pa_cons (pv 1) pa_nil)) pa_nil)) (pg_name (i := 4) scMixed.nd rfl (.inl rfl))
        (pss_one (ps_expr (pe_bm PySem.F.plainAttrs_list PySem.F.slot_list_append PySem.F.type_list_append mt_append (pv 3)
          (pa_cons (pe_bm PySem.F.plainAttrs_list PySem.F.slot_list_pop PySem.F.type_list_pop mt_popAt (pv 2)
            (pa_cons (pe_call GR hr (by rfl) D.gR D.FR.kp D.bR .nil pass0 (pa_cons (pv 0) (pa_cons (pe_callB call_len_seq (by rfl) T.len PySem.boot_len (pa_cons (pv 2) pa_nil)) pa_nil))) pa_nil)) pa_nil)))))
      (pss_one (ps_ret (pv 3)))), ?_⟩
    obtain ⟨ds, hd⟩ := di.there
    -- left = list(items); found = []
    refine ⟨_, rfl, p, xs, rfl, .inl hS, fun l nl => ⟨Nat.zero_le _, fun q nq => ?_⟩⟩
    refine ⟨_, _, rfl, ?_⟩
    have ndl : d ≠ l := ne_of_none hd nl
    have nql : q ≠ l := fun e => by
      rw [e, upd_same] at nq
      cases nq
    have nHq : H q = none := by
      rw [upd_ne nql] at nq
      exact nq
    have ndq : d ≠ q := ne_of_none hd nHq
    have s1 : Same H (upd (upd H l (.lst xs)) q (.lst [])) := (Same.new nl).trans (Same.new nq)
    have hS1 := s1.seq hS
    -- the loop
    refine ⟨_, rfl, p, xs, rfl, .inl hS1, xs.length, rfl, by omega, by omega, ?_⟩
    refine for_range (lo := 0) (n := ((xs.length : Int)).toNat) (fun i σ H' => ∃ (v : Option V) (rem done : List V), σ = [some (.ref d), some (.ref p), some (.ref l), some (.ref q), v] ∧ Kp d H H' ∧
      H' l = some (.lst rem) ∧ H' q = some (.lst done) ∧ rem.length + i = xs.length ∧ (done ++ rem).Perm xs ∧ Dice H' d (n + i))
      ⟨none, xs, [], rfl, Kp.same s1, by rw [upd_ne nql.symm, upd_same], upd_same, by omega, List.Perm.refl _, di.same s1⟩ ?_ ?_
    · rintro i σ H' hi ⟨v, rem, done, rfl, kp, hl, hq, len, pm, di'⟩
      have hi' : i < xs.length := by omega
      have dl : done.length = i := by
        have := pm.length_eq
        rw [List.length_append] at this
        omega
      refine ⟨_, rfl, .inl ⟨rfl, _, SqL.of hq⟩, _, rfl, .inl ⟨rfl, _, SqL.of hl⟩, _, rfl, _, rfl, l, rem, rfl, .inl (SqL.of hl), d, _, n + i, rfl, di', by omega, by omega, by omega, fun r o r0 r1 di2 => ?_⟩
      have hlt : r.toNat < rem.length := by omega
      have k2 : Kp d H' (upd H' d o) := Kp.upd
      have hl2 := k2 _ _ ndl.symm hl
      have hq2 := k2 _ _ ndq.symm hq
      refine ⟨l, rem, r, r.toNat, rem[r.toNat], rfl, rfl, hl2, by omega, by omega, seqIndex_of r0 (by omega), List.getElem?_eq_getElem hlt, ?_⟩
      have hq3 : (upd (upd H' d o) l (.lst (rem.eraseIdx r.toNat))) q = some (.lst done) := by
        rw [upd_ne nql]
        exact hq2
      refine ⟨q, done, _, rfl, rfl, hq3, small1000 (by omega), ?_⟩
      refine ⟨_, rem.eraseIdx r.toNat, _, rfl, fun b u nb e => ?_, ?_, upd_same, ?_, ?_, ?_⟩
      · rw [upd_ne (ne_of_none e nHq), upd_ne (ne_of_none e nl)]
        exact k2 _ _ nb (kp _ _ nb e)
      · rw [upd_ne nql.symm, upd_same]
      · rw [List.length_eraseIdx_of_lt hlt]
        omega
      · have e1 := erase_perm rem r.toNat hlt
        rw [List.append_assoc]
        exact (List.Perm.append_left done e1).trans pm
      · refine (di2.kept fun u e => ?_).more (by omega) (by omega)
        rw [upd_ne ndq, upd_ne ndl]
        exact e
    · rintro σ H' ⟨v, rem, done, rfl, kp, hl, hq, len, pm, di'⟩
      have e0 : rem = [] := List.length_eq_zero_iff.mp (by omega)
      subst e0
      rw [List.append_nil] at pm
      refine ⟨_, rfl, k q done H' ndq.symm nHq kp hq pm (di'.more (by omega) (by omega))⟩
end
end Pr
namespace Pr
open PySem PySem.Spec PyProof.Rows L2 Gd
/-! ### values that can be judged and shown -/
/-- the heap without the dice -/
def Hm (d : Addr) (H : Hp) : Hp := fun b => if b = d then none else H b
theorem Hm.some_of {d b : Addr} {H : Hp} {o : HO} (h : Hm d H b = some o) : H b = some o ∧ b ≠ d := by
  unfold Hm at h
  by_cases e : b = d
  · rw [if_pos e] at h
    cases h
  · rw [if_neg e] at h
    exact ⟨h, e⟩
theorem Hm.of {d b : Addr} {H : Hp} {o : HO} (h : H b = some o) (e : b ≠ d) : Hm d H b = some o := by
  unfold Hm
  rw [if_neg e]
  exact h
theorem Kp.hm {d : Addr} {H H' : Hp} (k : Kp d H H') : Same (Hm d H) (Hm d H') := fun b o h => Hm.of (k b o (Hm.some_of h).2 (Hm.some_of h).1) (Hm.some_of h).2
/-- the type of a value that is no instance -/
inductive Kd (H : Hp) : V → String → Prop where
  | non : Kd H .non "NoneType"
  | bl (b : Bool) : Kd H (.bl b) "bool"
  | int (i : Int) : Kd H (.int i) "int"
  | str (z : Str) : Kd H (.str z) "str"
  | lst {a : Addr} {xs : List V} (e : H a = some (.lst xs)) : Kd H (.ref a) "list"
  | tup {a : Addr} {xs : List V} (e : H a = some (.tup xs)) : Kd H (.ref a) "tuple"
  | dK {a : Addr} {kvs : List (Key × V)} (e : H a = some (.dK kvs)) : Kd H (.ref a) "dict"
theorem Kd.same {H H' : Hp} {v : V} {t : String} (k : Kd H v t) (s : Same H H') : Kd H' v t := by
  cases k with
  | non => exact .non
  | bl b => exact .bl b
  | int i => exact .int i
  | str z => exact .str z
  | lst e => exact .lst (s _ _ e)
  | tup e => exact .tup (s _ _ e)
  | dK e => exact .dK (s _ _ e)
theorem Sh.more {H : Hp} : ∀ (n : Nat) (v : V) (t : Str), Sh H n v t → Sh H (n + 1) v t
  | 0, _, _, h => .inl h
  | n + 1, _, _, h => by
    rcases h with h | ⟨a, xs, ts, rfl, e, p, rfl⟩ | ⟨a, xs, ts, rfl, e, p, rfl⟩ | ⟨a, xs, ts, rfl, e, p, rfl⟩
    · exact .inl h
    · exact Sh.lst e (L2.Paired.mapP p fun x t q => Sh.more n x t q)
    · exact Sh.tup e (L2.Paired.mapP p fun x t q => Sh.more n x t q)
    · exact Sh.dK e (L2.Paired.mapP p fun x t q => ⟨q.1, Sh.more n x.2 t q.2⟩)
theorem Sh.le {H : Hp} {n m : Nat} {v : V} {t : Str} (h : n ≤ m) (s : Sh H n v t) : Sh H m v t := by
  induction h with
  | refl => exact s
  | step _ ih => exact Sh.more _ _ _ ih
/-- a value: its type, its text, what it holds if it is a tuple -/
structure Vd (H : Hp) (n m : Nat) (v : V) : Prop where
  kd : ∃ t, Kd H v t
  sm : ∃ t, Sh H n v t ∧ t.length ≤ m
  str : ∀ z, v = .str z → z.length ≤ 1000000
  items : ∀ a xs, v = .ref a → H a = some (.tup xs) → xs.length ≤ 1000 ∧ ∀ x ∈ xs, (∃ t, Kd H x t) ∧ ∀ z, x = .str z → z.length ≤ 1000000
theorem Vd.le {H : Hp} {n m n' m' : Nat} {v : V} (h : Vd H n m v) (a : n ≤ n') (b : m ≤ m') : Vd H n' m' v :=
  ⟨h.kd, let ⟨t, s, l⟩ := h.sm; ⟨t, Sh.le a s, by omega⟩, h.str, h.items⟩
theorem Vd.same {H H' : Hp} {n m : Nat} {v : V} (h : Vd H n m v) (s : Same H H') : Vd H' n m v := by
  obtain ⟨t, hk⟩ := h.kd
  refine ⟨⟨t, hk.same s⟩, let ⟨t, q, l⟩ := h.sm; ⟨t, Sh.keep s n v t q, l⟩, h.str, fun a xs e q => ?_⟩
  subst e
  cases hk with
  | lst e =>
    rw [s _ _ e] at q
    cases q
  | tup e =>
    have q' := q
    rw [s _ _ e] at q'
    cases q'
    obtain ⟨l, k⟩ := h.items a xs rfl e
    exact ⟨l, fun x m => let ⟨⟨t, kt⟩, z⟩ := k x m; ⟨⟨t, kt.same s⟩, z⟩⟩
  | dK e =>
    rw [s _ _ e] at q
    cases q
theorem Vd.non {H : Hp} : Vd H 0 2000 .non := ⟨⟨_, .non⟩, ⟨_, Sc.non, by decide⟩, fun z e => (nomatch e), fun a xs e => (nomatch e)⟩
theorem Vd.bl {H : Hp} (b : Bool) : Vd H 0 2000 (.bl b) := ⟨⟨_, .bl b⟩, ⟨_, Sc.bl b, by cases b <;> decide⟩, fun z e => (nomatch e), fun a xs e => (nomatch e)⟩
theorem Vd.int {H : Hp} (i : Int) (h : i.natAbs < 2 ^ 1900) : Vd H 0 2000 (.int i) := by
  have hl : i.natAbs.log2 < 1920 := Nat.lt_of_lt_of_le (PySem.Flt.log2_lt_of (by decide) h) (by decide)
  refine ⟨⟨_, .int i⟩, ⟨_, Sc.int i hl, ?_⟩, fun z e => (nomatch e), fun a xs e => (nomatch e)⟩
  exact Nat.le_trans (PyProof.Rows.int_text_len_1921 hl) (by decide)
/-- a text of at most m signs -/
def SOk (m : Nat) (z : Str) : Prop := z.length ≤ m ∧ ∀ c ∈ z.cps.toList, c < 16 ^ 8
theorem SOk.le {m n : Nat} {z : Str} (h : SOk m z) (l : m ≤ n) : SOk n z := ⟨by have := h.1; omega, h.2⟩
theorem Vd.text {H : Hp} {k : Nat} {z : Str} (h : SOk k z) (hk : k ≤ 100000) : Vd H 0 (10 * k + 2) (.str z) := by
  have l := StrLaws.reprText_len z h.2
  have l2 := h.1
  refine ⟨⟨_, .str z⟩, ⟨_, Sc.str z (by rw [sizeLine_eq]; omega), by omega⟩, fun y e => ?_, fun a xs e => (nomatch e)⟩
  cases e
  omega
theorem paired_of {H : Hp} {n m : Nat} : ∀ {xs : List V}, (∀ x ∈ xs, Vd H n m x) → ∃ ts, Paired (Sh H n) xs ts ∧ (ts.map (·.length)).sum ≤ xs.length * m ∧ ts.length = xs.length
  | [], _ => ⟨[], .nil, by simp, rfl⟩
  | x :: xs, h => by
    obtain ⟨ts, p, s, l⟩ := paired_of (xs := xs) fun y m => h y (List.mem_cons_of_mem _ m)
    obtain ⟨t, q, lt⟩ := (h x List.mem_cons_self).sm
    refine ⟨t :: ts, .cons q p, ?_, by simp [l]⟩
    rw [List.map_cons, List.sum_cons, List.length_cons, Nat.succ_mul]
    omega
theorem Vd.lst {H : Hp} {n m k : Nat} {a : Addr} {xs : List V} (e : H a = some (.lst xs)) (h : ∀ x ∈ xs, Vd H n m x) (hl : xs.length ≤ k) : Vd H (n + 1) (k * (m + 2) + 3) (.ref a) := by
  obtain ⟨ts, p, s, l⟩ := paired_of h
  refine ⟨⟨_, .lst e⟩, ⟨_, Sh.lst e p, ?_⟩, fun z e => (nomatch e), fun b ys eb q => ?_⟩
  · have := listText_len_le ts
    have h2 : xs.length * (m + 2) ≤ k * (m + 2) := Nat.mul_le_mul_right _ hl
    rw [Nat.mul_add] at h2
    omega
  · cases eb
    rw [e] at q
    cases q
theorem Vd.tup {H : Hp} {n m k : Nat} {a : Addr} {xs : List V} (e : H a = some (.tup xs)) (h : ∀ x ∈ xs, Vd H n m x) (hl : xs.length ≤ k) (hk : k ≤ 1000) : Vd H (n + 1) (k * (m + 2) + 3) (.ref a) := by
  obtain ⟨ts, p, s, l⟩ := paired_of h
  refine ⟨⟨_, .tup e⟩, ⟨_, Sh.tup e p, ?_⟩, fun z e => (nomatch e), fun b ys eb q => ?_⟩
  · have := tupleText_len_le ts
    have h2 : xs.length * (m + 2) ≤ k * (m + 2) := Nat.mul_le_mul_right _ hl
    rw [Nat.mul_add] at h2
    omega
  · cases eb
    rw [e] at q
    cases q
    exact ⟨by omega, fun x m => ⟨(h x m).kd, (h x m).str⟩⟩
theorem Vd.dK0 {H : Hp} {a : Addr} (e : H a = some (.dK [])) : Vd H 1 2000 (.ref a) := by
  refine ⟨⟨_, .dK e⟩, ⟨_, Sh.dK e .nil, by decide +kernel⟩, fun z e => (nomatch e), fun b ys eb q => ?_⟩
  cases eb
  rw [e] at q
  cases q
theorem Vd.dK1 {H : Hp} {a : Addr} {x : Str} {i : Int} (e : H a = some (.dK [(.inr x, .int i)])) (hx : SOk 10 x) (hi : i.natAbs.log2 < 1920) : Vd H 1 3000 (.ref a) := by
  have l := StrLaws.reprText_len x hx.2
  have l2 := hx.1
  have l3 := PyProof.Rows.int_text_len_1921 hi
  refine ⟨⟨_, .dK e⟩, ⟨_, Sh.dK (n := 0) (ts := [((toString i : String) : Str)]) e (.cons ⟨by show (reprText x).length ≤ sizeLine; rw [sizeLine_eq]; omega, Sc.int i hi⟩ .nil), ?_⟩, fun z e => (nomatch e), fun b ys eb q => ?_⟩
  · have h := dictText_len_le (List.zipWith (fun (p : Key × V) t => keyText p.1 ++ ": " ++ t) [((.inr x : Key), V.int i)] [((toString i : String) : Str)])
    have e2 : ((keyText (.inr x) ++ ": " ++ ((toString i : String) : Str)) : Str).length = (reprText x).length + 2 + ((toString i : String) : Str).length := by
      rw [strLen_append, strLen_append]
      rfl
    have e3 : (List.zipWith (fun (p : Key × V) t => keyText p.1 ++ ": " ++ t) [((.inr x : Key), V.int i)] [((toString i : String) : Str)]) = [keyText (.inr x) ++ ": " ++ ((toString i : String) : Str)] := rfl
    rw [e3] at h ⊢
    rw [List.map_cons, List.map_nil, List.sum_cons, List.sum_nil, e2, List.length_singleton] at h
    omega
  · cases eb
    rw [e] at q
    cases q
end Pr
namespace Pr
open PySem PySem.Spec PyProof.Rows L2 Gd
/-! ### drawn operators -/
def pool : List Str := ["c", "v", "p", "s", "add", "operator", "aa", "z", "op", "goal"]
/-- names with arities, as a dict -/
def dkv (l : List (Str × Nat)) : List (Key × V) := l.map fun p => (.inr p.1, .int (p.2 : Int))
structure Ars (l : List (Str × Nat)) : Prop where
  few : 1 ≤ l.length ∧ l.length ≤ 4
  nd : (l.map (·.1)).Nodup
  pool : ∀ p ∈ l, p.1 ∈ pool
  two : ∀ p ∈ l, p.2 ≤ 2
  const : ∃ p ∈ l, p.2 = 0
theorem Ars.perm {l l' : List (Str × Nat)} (h : Ars l) (p : l'.Perm l) : Ars l' :=
  ⟨by rw [p.length_eq]; exact h.few, (p.map _).nodup_iff.mpr h.nd, fun x m => h.pool x (p.mem_iff.mp m), fun x m => h.two x (p.mem_iff.mp m), let ⟨x, m, e⟩ := h.const; ⟨x, p.mem_iff.mpr m, e⟩⟩
theorem val_none {z : Str} : ∀ {l : List (Str × Nat)}, z ∉ l.map (·.1) → valV (dkv l) (.inr z : Key) = none
  | [], _ => rfl
  | p :: l, h => by
    show valV ((.inr p.1, .int (p.2 : Int)) :: dkv l) (.inr z : Key) = none
    rw [valV_neg (fun e => h (by
      have e' : p.1 = z := Sum.inr.inj e
      rw [← e']
      exact List.mem_cons_self))]
    exact val_none fun m => h (List.mem_cons_of_mem _ m)
theorem put_end {l : List (Str × Nat)} {z : Str} {k : Nat} (h : z ∉ l.map (·.1)) : putK (dkv l) (.inr z) (.int (k : Int)) = dkv (l ++ [(z, k)]) := by
  rw [putK_new _ (val_none h)]
  unfold dkv
  rw [List.map_append]
  rfl
theorem merge_end : ∀ (l2 l : List (Str × Nat)), ((l ++ l2).map (·.1)).Nodup → mergeK (dkv l) (dkv l2) = dkv (l ++ l2)
  | [], l, _ => by rw [List.append_nil]; rfl
  | (z, k) :: l2, l, h => by
    have n : z ∉ l.map (·.1) := by
      rw [List.map_append, List.nodup_append] at h
      exact fun m => h.2.2 z m z (by simp) rfl
    show mergeK (putK (dkv l) (.inr z) (.int (k : Int))) (dkv l2) = _
    rw [put_end n, merge_end l2 (l ++ [(z, k)]) (by rw [List.append_assoc]; exact h), List.append_assoc]
    rfl
theorem merge_all {l : List (Str × Nat)} (h : (l.map (·.1)).Nodup) : mergeK [] (dkv l) = dkv l := merge_end l [] h
theorem paired_perm {α β : Type} {F : α → β → Prop} {xs ys : List α} (p : xs.Perm ys) : ∀ {bs : List β}, Paired F ys bs → ∃ cs, cs.Perm bs ∧ Paired F xs cs := by
  induction p with
  | nil => exact fun {bs} h => ⟨bs, .refl _, h⟩
  | cons a p ih =>
    intro bs h
    cases h with
    | cons h r =>
      obtain ⟨cs, q, k⟩ := ih r
      exact ⟨_, q.cons _, .cons h k⟩
  | swap a b l =>
    intro bs h
    cases h with
    | cons h r =>
      cases r with
      | cons k r => exact ⟨_, .swap _ _ _, .cons k (.cons h r)⟩
  | trans p q ih1 ih2 =>
    intro bs h
    obtain ⟨cs, q1, k1⟩ := ih2 h
    obtain ⟨ds, q2, k2⟩ := ih1 k1
    exact ⟨ds, q2.trans q1, k2⟩
theorem paired_of_map {α β : Type} (g : β → α) : ∀ l : List β, Paired (fun a b => a = g b) (l.map g) l
  | [] => .nil
  | _ :: l => .cons rfl (paired_of_map g l)
theorem map_of_paired {α β : Type} {g : β → α} : ∀ {xs : List α} {l : List β}, Paired (fun a b => a = g b) xs l → xs = l.map g
  | _, _, .nil => rfl
  | _, _, .cons h r => by rw [h, map_of_paired r]; rfl
theorem perm_map {α β : Type} {g : β → α} {xs : List α} {l : List β} (p : xs.Perm (l.map g)) : ∃ l' : List β, l'.Perm l ∧ xs = l'.map g := by
  obtain ⟨l', q, k⟩ := paired_perm p (paired_of_map g l)
  exact ⟨l', q, map_of_paired k⟩
theorem Kp.free {d b : Addr} {H H' : Hp} (k : Kp d H H') (n : b ≠ d) (h : H' b = none) : H b = none := by
  cases e : H b with
  | none => rfl
  | some o =>
    rw [k b o n e] at h
    cases h
theorem paired_and {α β : Type} {F : α → β → Prop} {P : α → Prop} : ∀ {xs : List α} {ys : List β}, (∀ a ∈ xs, P a) → Paired F xs ys → Paired (fun a b => P a ∧ F a b) xs ys
  | _, _, _, .nil => .nil
  | _, _, h, .cons k r => .cons ⟨h _ List.mem_cons_self, k⟩ (paired_and (fun a m => h a (List.mem_cons_of_mem _ m)) r)
theorem paired_map {α β : Type} {F G : α → β → Prop} (k : ∀ a b, F a b → G a b) : ∀ {xs : List α} {ys : List β}, Paired F xs ys → Paired G xs ys
  | _, _, .nil => .nil
  | _, _, .cons h r => .cons (k _ _ h) (paired_map k r)
theorem cut_one {x : V} {xs : List V} {r : Int} (h0 : 0 ≤ r) (h1 : r.toNat ≤ xs.length) : cutV (x :: xs) (some 1) (some (1 + r)) = xs.take r.toNat := by
  have a1 : HT.sIx (x :: xs).length 0 (some 1) = 1 := by
    simp [HT.sIx]
  have a2 : HT.sIx (x :: xs).length (x :: xs).length (some (1 + r)) = 1 + r.toNat := by
    show (if 1 + r < 0 then (1 + r + ((xs.length + 1 : Nat) : Int)).toNat else min (1 + r).toNat (xs.length + 1)) = 1 + r.toNat
    rw [if_neg (by omega)]
    omega
  unfold cutV
  rw [a1, a2, List.drop_one, List.tail_cons, Nat.add_sub_cancel_left]
def spArs : Sp := fun vs H Q _ => ∃ (d : Addr) (n : Nat), vs = [.ref d] ∧ Dice H d n ∧ n + 40 < 1000000 ∧
  ∀ (q : Addr) (l : List (Str × Nat)) (H' : Hp), q ≠ d → H q = none → Kp d H H' → H' q = some (.dK (dkv l)) → Ars l → Dice H' d (n + 40) → Q (.ref q) H'
section
variable {P : Program} {w : World} {K : PySem.W.Frag} {mg : Str → Option Value} {base : Heap} {fR fP fM : Addr} {dR dP dM : FuncData}
theorem scArs : FnScope ["dice", "names", "found", "name"] ["dice"] (defScope sArs) := ⟨rfl, rfl, rfl, by decide +kernel, rfl, by decide +kernel, by decide +kernel⟩
theorem ok_ars {f : Addr} {fd : FuncData} (F : Fun K "_law_arities" "_law_arities" sArs f fd) (D : Draws K mg fR fP fM dR dP dM) (T : Free mg) : FnOk P w K mg base CX0 3 f fd ["dice"] spArs := by
  have GR : FnOk P w K mg base CX0 1 fR dR ["dice", "total"] spRoll := ok_roll D.FR T
  have GM : FnOk P w K mg base CX0 2 fM dM ["dice", "items"] (spMixed K) := ok_mixed D T
  refine F.ok scArs (fun vs H Q E h => ?_) (fun cdv A outer s H vs Q E hr h => ?_)
  · obtain ⟨d, n, rfl, _⟩ := h
    rfl
  · obtain ⟨d, n, rfl, di, hn, q⟩ := h
    have r1 : Room 1 _ := hr.mono (by decide)
    have hu := hr.units
    refine ⟨_, pss_cons (ps_set (i := 1) scArs.nd rfl (.inl rfl) (pe_call GM hr (by rfl) D.gM D.FM.kp D.bM .nil pass0 (pa_cons (pv 0) (pa_cons (pe_lst (pa_cons pe_str (pa_cons pe_str (pa_cons pe_str (pa_cons pe_str (pa_cons pe_str (pa_cons pe_str (pa_cons pe_str (pa_cons pe_str (pa_cons pe_str (pa_cons pe_str pa_nil))))))))))) pa_nil)))) (pss_cons (ps_set (i := 2) scArs.nd rfl (.inl rfl) (pe_disp (pps_cons (pe_ix ix_list (pv 1) pe_int (fun _ _ => rfl)) pe_int pps_nil) (by rfl) (by rfl) (fun z => by cases z) (by decide))) (pss_cons (ps_for PassesOwn.never rfl (pi_list (pe_slice sl_list (pv 1) (po_some pe_int) (po_some (pe_op op_add pe_int (pe_call GR r1 (by rfl) D.gR D.FR.kp D.bR .nil pass0 (pa_cons (pv 0) (pa_cons pe_int pa_nil))))))) (pg_name (i := 3) scArs.nd rfl (.inl rfl)) (pss_one (ps_asg (pe_call GR r1 (by rfl) D.gR D.FR.kp D.bR .nil pass0 (pa_cons (pv 0) (pa_cons pe_int pa_nil))) (pg_sub (pv 2) (pv 3) (set_dict (Nat.lt_of_le_of_lt (Nat.add_le_add_left (by decide : 1 ≤ 64) _) hu)))))) (pss_one (ps_ret (pe_callTy (call_dictP rfl) (by rfl) T.dict (by decide +kernel) (pa_cons (pe_call GM hr (by rfl) D.gM D.FM.kp D.bM .nil pass0 (pa_cons (pv 0) (pa_cons (LiI.pe_listItems (by rfl) (pv 2) (by rfl) T.list (by decide +kernel)) pa_nil))) pa_nil)))))), ?_⟩
    obtain ⟨ds, hd⟩ := di.there
    -- names
    refine ⟨_, rfl, by show 10 ≤ sizeLine; decide, fun lp nlp => ?_⟩
    have dlp : d ≠ lp := ne_of_none hd nlp
    refine ⟨d, lp, n, pool.map V.str, rfl, dlp.symm, SqL.of upd_same, by show 10 ≤ 1000; decide, di.same (Same.new nlp), by show n + 10 < 1000000; omega, fun b ys H1 nbd nb kp hb pm di1 => ?_⟩
    obtain ⟨zs, pz, rfl⟩ := perm_map pm
    have lz : zs.length = 10 := pz.length_eq
    have ndz : zs.Nodup := pz.nodup_iff.mpr (by decide +kernel)
    have di1' : Dice H1 d (n + 10) := di1
    -- found
    refine fun f nf => ?_
    have bf : b ≠ f := ne_of_none hb nf
    obtain ⟨ds1, hd1⟩ := di1'.there
    have df : d ≠ f := ne_of_none hd1 nf
    cases zs with
    | nil => cases lz
    | cons z0 zr =>
    have lr : zr.length = 9 := Nat.succ.inj lz
    refine ⟨_, rfl, b, _, _, _, rfl, rfl, SqL.of (by rw [upd_ne bf]; exact hb), atI_nat (j := 0) (v := V.str z0) rfl, upd_same, [(.inr z0, .int 0)], rfl, Nat.le_of_ble_eq_true rfl, ?_⟩
    rw [upd_upd]
    have hf : (upd H1 f (.dK (dkv [(z0, 0)]))) f = some (.dK (dkv [(z0, 0)])) := upd_same
    have di2 : Dice (upd H1 f (.dK (dkv [(z0, 0)]))) d (n + 10) := di1'.same (Same.new nf)
    have kp2 : Kp d H (upd H1 f (.dK (dkv [(z0, 0)]))) := ((Kp.new nlp).trans kp).trans (Kp.new nf)
    have hb2 : (upd H1 f (.dK (dkv [(z0, 0)]))) b = some (.lst ((z0 :: zr).map V.str)) := by rw [upd_ne bf]; exact hb
    have nHf : H f = none := Kp.free ((Kp.new nlp).trans kp) df.symm nf
    have hpz : ∀ z ∈ z0 :: zr, z ∈ pool := fun z m => pz.mem_iff.mp m
    -- the names behind the first one
    refine ⟨_, rfl, 1, rfl, _, rfl, d, 4, n + 10, rfl, di2, by omega, by decide, by decide +kernel, fun r o r0 r1' di3 => ⟨_, _, rfl, rfl, _, rfl, b, _, rfl, SqL.of ((Kp.upd (d := d)) _ _ nbd hb2), fun p np => ?_⟩⟩
    have cut : cutV ((z0 :: zr).map V.str) (some 1) (some (1 + r)) = (zr.take r.toNat).map V.str := by
      rw [List.map_cons, cut_one (by omega) (by rw [List.length_map]; omega), List.map_take]
    rw [cut]
    refine ⟨p, rfl, ⟨_, SqL.of upd_same⟩, ?_⟩
    have hf3 : (upd (upd H1 f (.dK (dkv [(z0, 0)]))) d o) f = some (.dK (dkv [(z0, 0)])) := (Kp.upd (d := d)) _ _ df.symm hf
    obtain ⟨ds3, hd3⟩ := di3.there
    have dp : d ≠ p := ne_of_none hd3 np
    have fp : f ≠ p := ne_of_none hf3 np
    have k3 : Kp d H (upd (upd H1 f (.dK (dkv [(z0, 0)]))) d o) := kp2.trans Kp.upd
    refine for_list (K := K) (a := p) (xs := (zr.take r.toNat).map V.str) (fun i σ H' => ∃ (v3 : Option V) (l : List (Str × Nat)), σ = [some (.ref d), some (.ref b), some (.ref f), v3] ∧ Kp d H H' ∧ H' p = some (.lst ((zr.take r.toNat).map V.str)) ∧
        H' f = some (.dK (dkv l)) ∧ l.map (·.1) = z0 :: zr.take i ∧ (∀ x ∈ l, x.2 ≤ 2) ∧ (z0, 0) ∈ l ∧ Dice H' d (n + 11 + i))
      ⟨none, [(z0, 0)], rfl, k3.trans (Kp.new np), upd_same, (Same.new np) _ _ hf3, rfl, by simp, by simp, di3.same (Same.new np)⟩ (fun i σ H' _ ⟨_, _, _, _, hp, _⟩ => SqL.of hp) ?_ ?_
    · rintro i x σ H' hx ⟨v3, l, rfl, kp', hp, hf', keys, two, c0, di'⟩
      have hx2 := List.getElem?_eq_some_iff.mp hx
      obtain ⟨hi, ex⟩ := hx2
      rw [List.length_map, List.length_take] at hi
      have hi9 : i < zr.length := by omega
      have ex2 : x = V.str zr[i] := by
        rw [← ex]
        simp
      subst ex2
      refine ⟨_, rfl, d, 3, n + 11 + i, rfl, di', by omega, by decide, by decide +kernel, fun r2 o2 r20 r21 di4 => ⟨_, rfl, _, rfl, f, _, rfl, DPut.k (k := .inr zr[i]) ((Kp.upd (d := d)) _ _ df.symm hf') ?_, ?_⟩⟩
      · have : l.length = (l.map (·.1)).length := (List.length_map _).symm
        rw [keys, List.length_cons, List.length_take] at this
        have e : (dkv l).length = l.length := List.length_map _
        rw [e, sizeLine_eq]
        omega
      · have nz : zr[i] ∉ l.map (·.1) := by
          rw [keys]
          have nd2 := (List.nodup_cons.mp ndz)
          intro m
          rcases List.mem_cons.mp m with m | m
          · exact nd2.1 (m ▸ List.getElem_mem hi9)
          · obtain ⟨j, hj, e⟩ := List.mem_iff_getElem.mp m
            rw [List.length_take] at hj
            rw [List.getElem_take] at e
            have := (List.getElem_inj nd2.2).mp e
            omega
        have er : r2 = ((r2.toNat : Nat) : Int) := (Int.toNat_of_nonneg r20).symm
        rw [er, put_end nz]
        have fd : f ≠ d := df.symm
        refine ⟨_, l ++ [(zr[i], r2.toNat)], rfl, fun c u nc e => ?_, ?_, upd_same, ?_, fun x m => ?_, List.mem_append_left _ c0, (di4.kept fun u e => ?_).more (by omega) (by omega)⟩
        · rw [upd_ne (ne_of_none e nHf), upd_ne nc]
          exact kp' c u nc e
        · rw [upd_ne fp.symm, upd_ne dp.symm]
          exact hp
        · rw [List.map_append, keys, List.take_add_one, List.getElem?_eq_getElem hi9]
          rfl
        · rcases List.mem_append.mp m with m | m
          · exact two x m
          · rw [List.mem_singleton.mp m]
            show r2.toNat ≤ 2
            omega
        · rw [upd_ne df]
          exact e
    · rintro σ H' ⟨v3, l, rfl, kp', hp, hf', keys, two, c0, di'⟩
      rw [List.length_map, List.length_take] at keys di'
      have lm : Nat.min r.toNat zr.length = r.toNat := Nat.min_eq_left (by omega)
      have ll : l.length = r.toNat + 1 := by
        have := (List.length_map (as := l) (·.1))
        rw [keys, List.length_cons, List.length_take] at this
        omega
      have ars : Ars l := by
        refine ⟨by omega, ?_, fun x m => ?_, two, _, c0, rfl⟩
        · rw [keys]
          have nd2 := List.nodup_cons.mp ndz
          exact List.nodup_cons.mpr ⟨fun m => nd2.1 (List.mem_of_mem_take m), (List.take_sublist _ _).nodup nd2.2⟩
        · have : x.1 ∈ l.map (·.1) := List.mem_map_of_mem m
          rw [keys] at this
          rcases List.mem_cons.mp this with e | m2
          · rw [e]
            exact hpz z0 List.mem_cons_self
          · exact hpz _ (List.mem_cons_of_mem _ (List.mem_of_mem_take m2))
      refine ⟨_, rfl, _, rfl, f, dkv l, rfl, hf', fun H5 p2 ts sm np2 nts pts h2 pr => ?_⟩
      have lts : ts.length = l.length := by
        have e : (dkv l).length = l.length := List.length_map _
        rw [pr.length, e]
      obtain ⟨ds5, hd5⟩ := di'.there
      refine ⟨d, p2, n + 11 + min r.toNat zr.length, ts.map V.ref, rfl, (ne_of_none hd5 np2).symm, SqL.of h2, by rw [List.length_map]; omega, di'.same sm, by rw [List.length_map]; omega, fun q2 ys H6 nqd nq2 kp6 hq2 pm2 di6 => ?_⟩
      obtain ⟨ps, pps, rfl⟩ := perm_map pm2
      obtain ⟨kvs, pk, pr2⟩ := paired_perm pps (paired_and (P := fun t => t ≠ d) (fun t m => (ne_of_none hd5 (nts t m)).symm) pr)
      obtain ⟨l2, pl, rfl⟩ := perm_map pk
      refine ⟨q2, ps, dkv l2, rfl, SqL.of hq2, paired_map (fun t k h => SqT.of (kp6 _ _ h.1 h.2)) pr2, fun p9 np9 => ?_⟩
      have a2 := ars.perm pl
      rw [merge_all a2.nd]
      obtain ⟨ds6, hd6⟩ := di6.there
      have k9 : Kp d H (upd H6 p9 (.dK (dkv l2))) := ((kp'.trans (Kp.same sm)).trans kp6).trans (Kp.new np9)
      have p9d : p9 ≠ d := (ne_of_none hd6 np9).symm
      refine q p9 l2 _ p9d (Kp.free ((kp'.trans (Kp.same sm)).trans kp6) p9d np9) k9 upd_same a2 ((di6.same (Same.new np9)).more ?_ ?_)
      · rw [List.length_map]
        omega
      · omega
end
end Pr

namespace Pr
open PySem PySem.Spec PyProof.Rows L2 Gd
theorem if_true_of {c : Bool} {A B : Prop} (hc : c = true) (h : A) : if c = true then A else B := by rw [if_pos hc]; exact h
theorem if_false_of {c : Bool} {A B : Prop} (hc : c = false) (h : B) : if c = true then A else B := by rw [hc, if_neg Bool.false_ne_true]; exact h
/-! ### drawn trees -/
/-- zs is a row of n trees over the operators l -/
inductive Fo (l : List (Str × Nat)) : Nat → List Str → Prop where
  | nil : Fo l 0 []
  | cons {z : Str} {a n : Nat} {zs : List Str} (m : (z, a) ∈ l) (h : Fo l (n + a) zs) : Fo l (n + 1) (z :: zs)
theorem val_some {z : Str} {a : Nat} : ∀ {l : List (Str × Nat)}, (l.map (·.1)).Nodup → (z, a) ∈ l → valV (dkv l) (.inr z : Key) = some (.int (a : Int))
  | p :: l, nd, h => by
    show valV ((.inr p.1, .int (p.2 : Int)) :: dkv l) (.inr z : Key) = some (.int (a : Int))
    have nd' := List.nodup_cons.mp nd
    rcases List.mem_cons.mp h with e | h
    · subst e
      rw [valV_pos rfl]
    · rw [valV_neg (fun e => nd'.1 (by
        have e' : p.1 = z := Sum.inr.inj e
        have m : (z, a).1 ∈ l.map (·.1) := List.mem_map_of_mem h
        exact (show p.1 ∈ l.map (·.1) from e' ▸ m)))]
      exact val_some nd'.2 h
def constB (l : List (Str × Nat)) (z : Str) : Bool := decide ((z, 0) ∈ l)
theorem filt_more {p : Str → Bool} {zs : List Str} {i : Nat} {z : Str} (h : zs[i]? = some z) : (zs.take (i + 1)).filter p = (zs.take i).filter p ++ (if p z then [z] else []) := by
  rw [List.take_add_one, h, List.filter_append]
  cases e : p z <;> simp [e]
theorem pe_imp {X : Cx} {e : Expr} {t t' : TE} (h : PE X e t) (k : ∀ σ H Q, t' σ H Q → t σ H Q) : PE X e t' := ⟨fun pins s σ H Q I q => h.run pins s σ H Q I (k σ H Q q)⟩
/-- a name is drawn -/
abbrev t_pk (K : PySem.W.Frag) : TE := tCall (spPick K) [] E0 (tCons (tVar 0) (tCons (tIf (tTest (tOp (rI0 fun i j => V.bl (decide (i < j))) (tOp (rI0 fun i j => V.int (i + j)) (tCB (fun xs H1 Q => ∃ p ys, xs = [V.ref p] ∧ (SqL K H1 p ys ∨ SqT K H1 p ys) ∧ Q (V.int (ys.length : Int)) H1) (tCons (tVar 3) tNil)) (tVar 4)) (tVar 2))) (tVar 5) (tVar 6)) tNil))
def t_pkB : TE := fun σ H Q => ∃ (d f ns cs : Addr) (cap o : Int) (ws ks cl : List Str) (n : Nat), σ[0]? = some (some (.ref d)) ∧ σ[2]? = some (some (.int cap)) ∧ σ[3]? = some (some (.ref f)) ∧ σ[4]? = some (some (.int o)) ∧ σ[5]? = some (some (.ref ns)) ∧ σ[6]? = some (some (.ref cs)) ∧ ns ≠ d ∧ cs ≠ d ∧
  H f = some (.lst (ws.map V.str)) ∧ H ns = some (.lst (ks.map V.str)) ∧ H cs = some (.lst (cl.map V.str)) ∧ ks ≠ [] ∧ cl ≠ [] ∧ ks.length ≤ 4 ∧ cl.length ≤ 4 ∧ Dice H d n ∧ n < 1000000 ∧
  ∀ z o2, (z ∈ ks ∧ (ws.length : Int) + o < cap) ∨ z ∈ cl → Dice (upd H d o2) d (n + 1) → Q (.str z) (upd H d o2)
theorem pk_imp {K : PySem.W.Frag} : ∀ σ H Q, t_pkB σ H Q → t_pk K σ H Q := by
  rintro σ H Q ⟨d, f, ns, cs, cap, o, ws, ks, cl, n, h0, h2, h3, h4, h5, h6, n1, n2, hf, hn, hc, kn, cn, k4, c4, di, hl, q⟩
  refine ⟨_, h0, _, h3, f, _, rfl, .inl (SqL.of hf), _, h4, _, _, rfl, rfl, _, h2, _, _, rfl, rfl, _, rfl, ?_⟩
  rw [List.length_map]
  by_cases c : (ws.length : Int) + o < cap
  · refine if_true_of (decide_eq_true c) ⟨_, h5, d, ns, n, _, rfl, n1, .inl (SqL.of hn), fun e => kn (List.map_eq_nil_iff.mp e), by rw [List.length_map]; omega, di, hl, fun v o2 mv di2 => ?_⟩
    obtain ⟨z, m, rfl⟩ := List.mem_map.mp mv
    exact q z o2 (.inl ⟨m, c⟩) di2
  · refine if_false_of (decide_eq_false c) ⟨_, h6, d, cs, n, _, rfl, n2, .inl (SqL.of hc), fun e => cn (List.map_eq_nil_iff.mp e), by rw [List.length_map]; omega, di, hl, fun v o2 mv di2 => ?_⟩
    obtain ⟨z, m, rfl⟩ := List.mem_map.mp mv
    exact q z o2 (.inr m) di2
def spDrawn : Sp := fun vs H Q _ => ∃ (d p : Addr) (cap n : Nat) (l : List (Str × Nat)), vs = [.ref d, .ref p, .int (cap : Int)] ∧ p ≠ d ∧ H p = some (.dK (dkv l)) ∧ Ars l ∧ 1 ≤ cap ∧ cap ≤ 400 ∧ Dice H d n ∧ n + 2 * cap + 3 < 1000000 ∧
  ∀ (q : Addr) (zs : List Str) (H' : Hp), q ≠ d → H q = none → Kp d H H' → H' q = some (.tup (zs.map V.str)) → Fo l 1 zs → zs.length ≤ cap + 1 → Dice H' d (n + 2 * cap + 3) → Q (.ref q) H'
section
variable {P : Program} {w : World} {K : PySem.W.Frag} {mg : Str → Option Value} {base : Heap} {fR fP fM : Addr} {dR dP dM : FuncData}
theorem scDrawn : FnScope ["dice", "arities", "cap", "found", "open_ends", "names", "constants", "turn", "name"] ["dice", "arities", "cap"] (defScope sDrawn) := ⟨rfl, rfl, rfl, by decide +kernel, rfl, by decide +kernel, by decide +kernel⟩
theorem ok_drawn {f : Addr} {fd : FuncData} (F : Fun K "_law_drawn_tree" "_law_drawn_tree" sDrawn f fd) (D : Draws K mg fR fP fM dR dP dM) (T : Free mg) : FnOk P w K mg base CX0 3 f fd ["dice", "arities", "cap"] spDrawn := by
  have GP : FnOk P w K mg base CX0 2 fP dP ["dice", "items"] (spPick K) := ok_pick D T
  refine F.ok scDrawn (fun vs H Q E h => ?_) (fun cdv A outer s H vs Q E hr h => ?_)
  · obtain ⟨d, p, cap, n, l, rfl, _⟩ := h
    rfl
  · obtain ⟨d, p, cap, n, l, rfl, npd, hp, ars, c1, c4, di, hn, q⟩ := h
    have hu := hr.units
    have hu1 : ∀ {u : Nat}, u + 64 < cLine → u + 1 < cLine := fun h => by omega
    refine ⟨_, pss_cons (ps_par3 (i := 3) (j := 4) (l := 5) (by rfl) scDrawn.nd rfl rfl rfl (by decide) (by decide) (by decide) rfl rfl rfl (pa_cons (pe_lst pa_nil) (pa_cons pe_int (pa_cons (pe_callB (call_sortedD (by rfl)) (by rfl) T.sorted (by decide +kernel) (pa_cons (pv 1) pa_nil)) pa_nil))) (by rfl)) (pss_cons (ps_setLc (i := 6) (own := [("name", 8)]) (g := gName 8) (by rfl) scDrawn.nd rfl rfl (sw_true rfl rfl rfl (by decide +kernel)) (pi_list (pv 5)) (blkOk_by (own := [("name", 8)]) (N := ["dice", "arities", "cap", "found", "open_ends", "names", "constants", "turn", "name"]) (sc := defScope sDrawn) (by decide +kernel)) (fun _ _ _ _ _ => pg_name (i := 8) scDrawn.nd rfl (Or.inl rfl)) (fun _ _ _ _ _ => pts_one (pt_cmpR op_eq (pe_dget (hu1 hu) (pv 1) (pv 8) (fun _ _ => rfl)) pe_int (nomark _))) (fun _ _ _ _ _ => pv 8)) (pss_cons (ps_for PassesOwn.never rfl (pi_range1 rfl T.range (pa_cons (pe_op op_add (pe_op op_mul pe_int (pv 2)) pe_int) pa_nil)) (pg_name (i := 7) scDrawn.nd rfl (.inl rfl)) (pss_cons (ps_if (pt_cmpR op_eq (pv 4) pe_int (nomark _)) (pss_one ps_break) pss_nil) (pss_cons (ps_set (i := 8) scDrawn.nd rfl (.inl rfl) (pe_imp (pe_call GP (hr.mono (by decide)) (by rfl) D.gP D.FP.kp D.bP .nil pass0 (pa_cons (pv 0) (pa_cons (pe_ifExp (pt_cmpR op_lt (pe_op op_add (pe_callB call_len_seq (by rfl) T.len PySem.boot_len (pa_cons (pv 3) pa_nil)) (pv 4)) (pv 2) (nomark _)) (pv 5) (pv 6)) pa_nil))) pk_imp)) (pss_cons (ps_expr (pe_bm PySem.F.plainAttrs_list PySem.F.slot_list_append PySem.F.type_list_append mt_append (pv 3) (pa_cons (pv 8) pa_nil))) (pss_one (ps_set (i := 4) scDrawn.nd rfl (.inl rfl) (pe_op op_add (pe_op op_sub (pv 4) pe_int) (pe_dget (hu1 hu) (pv 1) (pv 8) (fun _ _ => rfl))))))))) (pss_one (ps_ret (pe_callTy call_tuple_of (by rfl) T.tuple (by decide +kernel) (pa_cons (pv 3) pa_nil)))))), ?_⟩
    obtain ⟨ds, hd⟩ := di.there
    -- found, open_ends, names
    refine ⟨by show 0 ≤ sizeLine; decide, fun f nf => ?_⟩
    have hp1 := (Same.new nf (o := .lst [])) _ _ hp
    refine ⟨_, rfl, p, dkv l, l.map (·.1), rfl, Rd.of hp1, by unfold dkv; rw [List.map_map, List.map_map]; rfl, by rw [List.length_map]; have := ars.few; omega, fun ks ns pk _ nns => ⟨_, _, _, rfl, ?_⟩⟩
    have s1 := (Same.new nf (o := .lst [])).trans (Same.new nns (o := .lst (ks.map V.str)))
    have hf1 : (upd (upd H f (.lst [])) ns (.lst (ks.map V.str))) f = some (.lst []) := (Same.new nns) _ _ upd_same
    have hns1 : (upd (upd H f (.lst [])) ns (.lst (ks.map V.str))) ns = some (.lst (ks.map V.str)) := upd_same
    have nfn : f ≠ ns := ne_of_none (upd_same (H := H) (a := f) (o := .lst [])) nns
    have dns : d ≠ ns := ne_of_none ((Same.new nf (o := .lst [])) _ _ hd) nns
    have nHns : H ns = none := (Same.new nf (o := .lst [])).free nns
    generalize upd (upd H f (.lst [])) ns (.lst (ks.map V.str)) = H1 at s1 hf1 hns1 ⊢
    have lk : ks.length = l.length := by rw [pk.length_eq, List.length_map]
    have ark : ∀ z ∈ ks, ∃ a, (z, a) ∈ l := fun z m => by
      obtain ⟨x, m2, e⟩ := List.mem_map.mp (pk.mem_iff.mp m)
      exact ⟨x.2, by rw [← e]; exact m2⟩
    -- constants
    refine ⟨_, rfl, ns, rfl, ⟨_, SqL.of hns1⟩, fun cs ncs => ?_⟩
    refine lc_list (K := K) (a := ns) (xs := ks.map V.str) (fun i G => G cs = some (.lst (((ks.take i).filter (constB l)).map V.str)) ∧ Same H1 G) ⟨upd_same, Same.new ncs⟩ (fun i G _ ⟨_, s⟩ => SqL.of (s _ _ hns1)) ?_ ?_
    · rintro i x G hx ⟨eD, s⟩
      obtain ⟨z, hz, rfl⟩ : ∃ z, ks[i]? = some z ∧ V.str z = x := by
        rw [List.getElem?_map] at hx
        cases e : ks[i]? with
        | none => rw [e] at hx; cases hx
        | some b => rw [e] at hx; exact ⟨b, rfl, Option.some.inj hx⟩
      obtain ⟨a, ma⟩ := ark z (List.mem_of_getElem? hz)
      have hpG := s _ _ (s1 _ _ hp)
      have vz := val_some ars.nd ma
      refine ⟨rfl, _, rfl, _, rfl, p, _, rfl, vz ▸ DGet.k (k := .inr z) hpG, rfl, _, rfl, ?_⟩
      have more := filt_more (p := constB l) hz
      have uq : ∀ a2, (z, a2) ∈ l → a2 = a := fun a2 m2 => by
        have e := (val_some ars.nd m2).symm.trans vz
        have e2 := V.int.inj (Option.some.inj e)
        omega
      have fewc : ((ks.take i).filter (constB l)).length ≤ 4 := by
        have a1 := List.length_filter_le (constB l) (ks.take i)
        rw [List.length_take] at a1
        have := ars.few
        omega
      cases a with
      | zero =>
        have cb : constB l z = true := decide_eq_true ma
        rw [cb, if_pos rfl] at more
        refine if_true_of (by decide) ⟨_, rfl, _, eD, by rw [List.length_map, sizeLine_eq]; omega, ?_, fun a o x => by rw [upd_ne (ne_of_none x ncs)]; exact s a o x⟩
        rw [upd_same, more, List.map_append]
        rfl
      | succ a =>
        have cb : constB l z = false := decide_eq_false fun m0 => by
          have := uq 0 m0
          omega
        rw [cb, if_neg Bool.false_ne_true, List.append_nil] at more
        refine if_false_of (decide_eq_false fun e => ?_) ⟨by rw [eD, more], s⟩
        have := V.int.inj e
        omega
    rintro G ⟨eD, s2⟩
    have eD2 : G cs = some (.lst ((ks.filter (constB l)).map V.str)) := by
      have t0 := List.take_of_length_le (l := ks) (i := (ks.map V.str).length) (by rw [List.length_map]; exact Nat.le_refl _)
      rw [t0] at eD
      exact eD
    generalize ecl : ks.filter (constB l) = cl at eD2
    have cln : cl ≠ [] := fun e => by
      obtain ⟨x, m, e0⟩ := ars.const
      have mk : x.1 ∈ ks := pk.mem_iff.mpr (List.mem_map_of_mem m)
      have cb : constB l x.1 = true := decide_eq_true (by
        have : x = (x.1, 0) := by rw [← e0]
        exact this ▸ m)
      have : x.1 ∈ ks.filter (constB l) := List.mem_filter.mpr ⟨mk, cb⟩
      rw [ecl, e] at this
      cases this
    have cl0 : ∀ z ∈ cl, (z, 0) ∈ l := fun z m => by
      rw [← ecl] at m
      exact of_decide_eq_true (List.mem_filter.mp m).2
    have cl4 : cl.length ≤ 4 := by
      rw [← ecl]
      have a1 := List.length_filter_le (constB l) ks
      have := ars.few
      omega
    have ksn : ks ≠ [] := fun e => by
      rw [e] at lk
      have := ars.few
      exact absurd lk (by simp; omega)
    have nHf : H f = none := nf
    have dG := (di.same s1).same s2
    have hpG := s2 _ _ (s1 _ _ hp)
    have hfG := s2 _ _ hf1
    have hnG := s2 _ _ hns1
    have df : d ≠ f := ne_of_none hd nf
    have pf : p ≠ f := ne_of_none hp nf
    have dcs : d ≠ cs := ne_of_none (s1 _ _ hd) ncs
    have fcs : f ≠ cs := ne_of_none hf1 ncs
    have nHcs : H cs = none := s1.free ncs
    refine ⟨_, rfl, 2, (cap : Int), rfl, rfl, .inl ⟨by decide, by decide⟩, _, _, rfl, rfl, _, rfl, by omega, by omega, ?_⟩
    refine for_range (lo := 0) (n := (2 * (cap : Int) + 3).toNat) (fun i σ H' => ∃ (v7 v8 : Option V) (ws : List Str) (o : Nat), σ = [some (.ref d), some (.ref p), some (.int (cap : Int)), some (.ref f), some (.int (o : Int)), some (.ref ns), some (.ref cs), v7, v8] ∧ Kp d H H' ∧
        H' f = some (.lst (ws.map V.str)) ∧ H' ns = some (.lst (ks.map V.str)) ∧ H' cs = some (.lst (cl.map V.str)) ∧ ws.length = i ∧ i + o ≤ cap + 1 ∧ (∀ zs, Fo l o zs → Fo l 1 (ws ++ zs)) ∧ Dice H' d (n + i))
      ⟨none, none, [], 1, rfl, Kp.same (s1.trans s2), hfG, hnG, eD2, rfl, by omega, fun zs h => h, dG⟩ ?_ ?_
    · rintro i σ H' hi ⟨v7, v8, ws, o, rfl, kp, hf', hn', hc', lw, io, fo, di'⟩
      refine ⟨_, rfl, rfl, _, rfl, ?_⟩
      cases o with
      | zero =>
        refine if_true_of (by decide) ⟨_, rfl, f, _, rfl, .inl ⟨SqL.of hf', fun t nt => ?_⟩⟩
        have f1 := fo [] .nil
        rw [List.append_nil] at f1
        obtain ⟨ds', hd'⟩ := di'.there
        have td : t ≠ d := (ne_of_none hd' nt).symm
        exact q t ws _ td (Kp.free kp td nt) (kp.trans (Kp.new nt)) upd_same f1 (by omega) ((di'.same (Same.new nt)).more (by omega) (by omega))
      | succ o =>
        refine if_false_of (decide_eq_false fun e => ?_) ?_
        · have := V.int.inj e
          omega
        have kl4 : ks.length ≤ 4 := by
          have := ars.few
          omega
        refine ⟨d, f, ns, cs, (cap : Int), ((o + 1 : Nat) : Int), ws, ks, cl, n + i, rfl, rfl, rfl, rfl, rfl, rfl, dns.symm, dcs.symm, hf', hn', hc', ksn, cln, kl4, cl4, di', by omega, fun z o2 hz di2 => ?_⟩
        obtain ⟨a, ma, ha⟩ : ∃ a, (z, a) ∈ l ∧ ws.length + 1 + (o + a) ≤ cap + 1 := by
          rcases hz with ⟨m, c⟩ | m
          · obtain ⟨a, ma⟩ := ark z m
            have := ars.two _ ma
            exact ⟨a, ma, by omega⟩
          · exact ⟨0, cl0 z m, by omega⟩
        have k2 : Kp d H' (upd H' d o2) := Kp.upd
        have vz := val_some ars.nd ma
        have hf2 := k2 _ _ df.symm hf'
        have hp2 : (upd H' d o2) p = some (.dK (dkv l)) := k2 _ _ npd (kp _ _ npd hp)
        refine ⟨_, rfl, .inl ⟨rfl, _, SqL.of hf2⟩, _, rfl, f, _, _, rfl, rfl, hf2, by rw [List.length_map, sizeLine_eq]; omega, ?_⟩
        have hp3 : (upd (upd H' d o2) f (.lst (ws.map V.str ++ [.str z]))) p = some (.dK (dkv l)) := by
          rw [upd_ne pf]
          exact hp2
        refine ⟨_, rfl, _, _, rfl, rfl, _, rfl, _, rfl, p, _, rfl, vz ▸ DGet.k (k := .inr z) hp3, _, _, rfl, rfl, ?_⟩
        refine ⟨some (.int (0 + (i : Int))), some (.str z), ws ++ [z], o + a, ?_, fun b u nb e => ?_, by rw [upd_same, List.map_append]; rfl, ?_, ?_, by simp [lw], by omega, fun zs h => ?_, (di2.kept fun u e => ?_).more (by omega) (by omega)⟩
        · have e : ((o + 1 : Nat) : Int) - 1 + (a : Int) = ((o + a : Nat) : Int) := by omega
          show ([some (V.ref d), some (V.ref p), some (V.int (cap : Int)), some (V.ref f), some (V.int (((o + 1 : Nat) : Int) - 1 + (a : Int))), some (V.ref ns), some (V.ref cs), some (V.int (0 + (i : Int))), some (V.str z)] : L2.St) = _
          rw [e]
        · rw [upd_ne (ne_of_none e nHf)]
          exact k2 _ _ nb (kp _ _ nb e)
        · rw [upd_ne nfn.symm]
          exact k2 _ _ dns.symm hn'
        · rw [upd_ne fcs.symm]
          exact k2 _ _ dcs.symm hc'
        · rw [List.append_assoc]
          exact fo _ (.cons ma h)
        · rw [upd_ne df]
          exact e
    · rintro σ H' ⟨v7, v8, ws, o, rfl, kp, hf', hn', hc', lw, io, fo, di'⟩
      omega
end
end Pr

namespace Pr
open PySem PySem.Spec PyProof.Rows L2
/-! ### integers, counts, coprime pairs -/
theorem Kd.ty {K : PySem.W.Frag} {H : Hp} {v : V} {t : String} (k : Kd H v t) : TyX K H v (.type t) := by
  cases k with
  | non => exact .base .non
  | bl b => exact .base (.bl b)
  | int i => exact .base (.int i)
  | str z => exact .base (.str z)
  | lst e => exact .base (.lst e)
  | tup e => exact .base (.tup e)
  | dK e => exact .base (.dK e)
/-- is it an int (a bool is one); is it a bool -/
def isI : V → Bool
  | .bl _ => true
  | .int _ => true
  | _ => false
def isB : V → Bool
  | .bl _ => true
  | _ => false
theorem kit_int {K : PySem.W.Frag} {H : Hp} {v : V} {t : String} (k : Kd H v t) : PySem.W.kitOne K (.type t) (.type "int") = some (isI v) := by
  cases k <;> first | exact kit_ty (r := true) (by decide +kernel) | exact kit_ty (r := false) (by decide +kernel)
theorem kit_bool {K : PySem.W.Frag} {H : Hp} {v : V} {t : String} (k : Kd H v t) : PySem.W.kitOne K (.type t) (.type "bool") = some (isB v) := by
  cases k <;> first | exact kit_ty (r := true) (by decide +kernel) | exact kit_ty (r := false) (by decide +kernel)
/-- an integer of at most sixty digits; a count -/
def isInt : V → Bool
  | .int i => decide ((if i < 0 then -i else i) < 10 ^ (60 : Int).toNat)
  | _ => false
def isCount : V → Bool
  | .int i => decide ((if i < 0 then -i else i) < 10 ^ (60 : Int).toNat) && decide (0 ≤ i)
  | _ => false
theorem count_nat {v : V} (h : isCount v = true) : ∃ n : Nat, v = .int n ∧ n < 10 ^ 60 := by
  cases v with
  | int i =>
    have h' : (decide ((if i < 0 then -i else i) < 10 ^ (60 : Int).toNat) && decide (0 ≤ i)) = true := h
    rw [Bool.and_eq_true] at h'
    have h1 := of_decide_eq_true h'.1
    have h2 := of_decide_eq_true h'.2
    rw [if_neg (by omega)] at h1
    have e : ((10 : Int) ^ (60 : Int).toNat) = ((10 ^ 60 : Nat) : Int) := by decide +kernel
    rw [e] at h1
    exact ⟨i.toNat, by rw [Int.toNat_of_nonneg h2], by omega⟩
  | _ => cases h
theorem nat_count {n : Nat} (h : n < 10 ^ 60) : isCount (.int n) = true := by
  show (decide ((if (n : Int) < 0 then -(n : Int) else n) < 10 ^ (60 : Int).toNat) && decide ((0 : Int) ≤ n)) = true
  have e : ((10 : Int) ^ (60 : Int).toNat) = ((10 ^ 60 : Nat) : Int) := by decide +kernel
  rw [if_neg (by omega), e, decide_eq_true (by omega), decide_eq_true (by omega)]
  rfl
def spInt : Sp := fun vs H Q _ => ∃ (v : V) (t : String), vs = [v] ∧ Kd H v t ∧ Q (.bl (isInt v)) H
def spCount : Sp := fun vs H Q _ => ∃ (v : V) (t : String), vs = [v] ∧ Kd H v t ∧ Q (.bl (isCount v)) H
section
variable {P : Program} {w : World} {K : PySem.W.Frag} {mg : Str → Option Value} {base : Heap}
theorem scInteger : FnScope ["value"] ["value"] (defScope sInteger) := ⟨rfl, rfl, rfl, by decide +kernel, rfl, by decide +kernel, by decide +kernel⟩
theorem ok_integer {f : Addr} {fd : FuncData} (F : Fun K "is_integer" "is_integer" sInteger f fd) (T : Free mg) : FnOk P w K mg base CX0 1 f fd ["value"] spInt := by
  refine F.ok scInteger (fun vs H Q E h => ?_) (fun cdv A outer s H vs Q E hr h => ?_)
  · obtain ⟨v, t, rfl, _⟩ := h
    rfl
  · obtain ⟨v, t, rfl, kd, q⟩ := h
    refine ⟨_, pss_one (ps_ret (pe_and (pe_callB call_isi (by rfl) T.isi (by decide +kernel) (pa_cons (pv 0) (pa_cons (pe_bltn (v := .ty "int") (by rfl) T.int (by decide +kernel) rfl) pa_nil)))
      (pe_and (pe_not (pe_callB call_isi (by rfl) T.isi (by decide +kernel) (pa_cons (pv 0) (pa_cons (pe_bltn (v := .ty "bool") (by rfl) T.bool (by decide +kernel) rfl) pa_nil))))
        (pe_one (pe_cmpR op_lt (pe_callB call_abs (by rfl) T.abs (by decide +kernel) (pa_cons (pv 0) pa_nil)) (pe_op op_pow pe_int pe_int) (nomark _)))))), ?_⟩
    refine ⟨_, rfl, v, _, _, _, _, rfl, .ty "int", kd.ty, kit_int kd, _, rfl, ?_⟩
    cases kd with
    | int i => exact iteT ⟨_, rfl, _, _, _, _, _, rfl, .ty "bool", (Kd.int i).ty, kit_bool (Kd.int (H := H) i), _, rfl, _, rfl, iteT ⟨_, rfl, i, rfl, 10, 60, rfl, rfl, c10 (k := 60) (by decide), _, _, rfl, rfl, q⟩⟩
    | bl b => exact iteT ⟨_, rfl, _, _, _, _, _, rfl, .ty "bool", (Kd.bl b).ty, kit_bool (Kd.bl (H := H) b), _, rfl, _, rfl, iteF q⟩
    | _ => exact iteF q
theorem scCount : FnScope ["value"] ["value"] (defScope sCount) := ⟨rfl, rfl, rfl, by decide +kernel, rfl, by decide +kernel, by decide +kernel⟩
/-- the program's own defs that the others call -/
structure Words (K : PySem.W.Frag) (mg : Str → Option Value) (fI fC : Addr) (dI dC : FuncData) : Prop where
  FI : Fun K "is_integer" "is_integer" sInteger fI dI
  bI : Binds K dI ["value"] []
  gI : mg "is_integer" = some (.ref fI)
  FC : Fun K "is_count" "is_count" sCount fC dC
  bC : Binds K dC ["value"] []
  gC : mg "is_count" = some (.ref fC)
variable {fI fC : Addr} {dI dC : FuncData}
theorem ok_count (W : Words K mg fI fC dI dC) (T : Free mg) : FnOk P w K mg base CX0 2 fC dC ["value"] spCount := by
  have GI : FnOk P w K mg base CX0 1 fI dI ["value"] spInt := ok_integer W.FI T
  refine W.FC.ok scCount (fun vs H Q E h => ?_) (fun cdv A outer s H vs Q E hr h => ?_)
  · obtain ⟨v, t, rfl, _⟩ := h
    rfl
  · obtain ⟨v, t, rfl, kd, q⟩ := h
    refine ⟨_, pss_one (ps_ret (pe_and (pe_call GI hr (by rfl) W.gI W.FI.kp W.bI .nil pass0 (pa_cons (pv 0) pa_nil)) (pe_one (pe_cmpR op_ge (pv 0) pe_int (nomark _))))), ?_⟩
    refine ⟨_, rfl, v, t, rfl, kd, _, rfl, ?_⟩
    cases kd with
    | int i =>
      refine ite2 (fun c => ⟨_, rfl, i, _, rfl, rfl, ?_⟩) (fun c => ?_)
      · have e : isCount (.int i) = decide (0 ≤ i) := by
          show (_ && _) = _
          rw [show decide ((if i < 0 then -i else i) < 10 ^ (60 : Int).toNat) = true from c, Bool.true_and]
        rw [e] at q
        exact q
      · have e : isCount (.int i) = false := by
          show (_ && _) = _
          rw [show decide ((if i < 0 then -i else i) < 10 ^ (60 : Int).toNat) = false from Bool.eq_false_iff.mpr c, Bool.false_and]
        rw [e] at q
        exact q
    | _ => exact iteF q
end
end Pr

namespace Pr
open PySem PySem.Spec PyProof.Rows L2
/-! ### the same judges, as names that are never unfolded -/
theorem there_int : ∃ p : V → Bool, p = isInt := ⟨_, rfl⟩
theorem there_count : ∃ p : V → Bool, p = isCount := ⟨_, rfl⟩
noncomputable def isIntO : V → Bool := Classical.choose there_int
noncomputable def isCountO : V → Bool := Classical.choose there_count
theorem isIntO_eq : isIntO = isInt := Classical.choose_spec there_int
theorem isCountO_eq : isCountO = isCount := Classical.choose_spec there_count
def spIntO : Sp := fun vs H Q _ => ∃ (v : V) (t : String), vs = [v] ∧ Kd H v t ∧ Q (.bl (isIntO v)) H
def spCountO : Sp := fun vs H Q _ => ∃ (v : V) (t : String), vs = [v] ∧ Kd H v t ∧ Q (.bl (isCountO v)) H
theorem spIntO_eq : spIntO = spInt := by
  unfold spIntO spInt
  rw [isIntO_eq]
theorem spCountO_eq : spCountO = spCount := by
  unfold spCountO spCount
  rw [isCountO_eq]
theorem nat_countO {n : Nat} (h : n < 10 ^ 60) : isCountO (.int n) = true := by
  rw [isCountO_eq]
  exact nat_count h
section
variable {P : Program} {w : World} {K : PySem.W.Frag} {mg : Str → Option Value} {base : Heap}
theorem ok_integerO {f : Addr} {fd : FuncData} (F : Fun K "is_integer" "is_integer" sInteger f fd) (T : Free mg) : FnOk P w K mg base CX0 1 f fd ["value"] spIntO := by
  rw [spIntO_eq]
  exact ok_integer F T
theorem ok_countO {fI fC : Addr} {dI dC : FuncData} (W : Words K mg fI fC dI dC) (T : Free mg) : FnOk P w K mg base CX0 2 fC dC ["value"] spCountO := by
  rw [spCountO_eq]
  exact ok_count W T
end
end Pr
namespace Pr
open PySem PySem.Spec PyProof.Rows L2 Gd
/-! ### names: by the text's methods, and sign by sign -/
def azC (c : Nat) : Bool := decide (97 ≤ c) && decide (c ≤ 122)
def azB (z : Str) : Bool := decide (1 ≤ z.length) && decide (z.length ≤ 8) && z.cps.toList.all azC
def nameB : V → Bool
  | .str z => azB z
  | _ => false
theorem az_table : ((List.range 128).all fun c => ((Unicode.isAlpha c && !(Unicode.isUpper c || Unicode.isTitle c)) == azC c) && (!azC c || Unicode.isLower c)) = true := by decide +kernel
theorem az_at {c : Nat} (h : c < 128) : (Unicode.isAlpha c && !(Unicode.isUpper c || Unicode.isTitle c)) = azC c ∧ (azC c = true → Unicode.isLower c = true) := by
  have q := List.all_eq_true.mp az_table c (List.mem_range.mpr h)
  rw [Bool.and_eq_true] at q
  refine ⟨eq_of_beq q.1, fun e => ?_⟩
  have q2 := q.2
  rw [e] at q2
  simpa using q2
theorem az_lt {c : Nat} (h : azC c = true) : c < 128 := by
  unfold azC at h
  rw [Bool.and_eq_true] at h
  have := of_decide_eq_true h.2
  omega
/-- the three methods say what the signs say -/
theorem by_methods {z : Str} (h8 : z.length ≤ 8) : (Txt.isascii z && (Txt.isalpha z && Txt.islower z)) = azB z := by
  obtain ⟨⟨l⟩⟩ := z
  have hl : l.length ≤ 8 := h8
  have e1 : Txt.isascii ⟨⟨l⟩⟩ = l.all (· < 128) := by simp [Txt.isascii]
  have e2 : Txt.isalpha ⟨⟨l⟩⟩ = (decide (0 < l.length) && l.all Unicode.isAlpha) := by
    unfold Txt.isalpha
    simp [Str.length]
  have e3 : Txt.islower ⟨⟨l⟩⟩ = (l.any Unicode.isLower && !l.any fun c => Unicode.isUpper c || Unicode.isTitle c) := by simp [Txt.islower]
  have e4 : azB ⟨⟨l⟩⟩ = (decide (1 ≤ l.length) && decide (l.length ≤ 8) && l.all azC) := rfl
  rw [e1, e2, e3, e4, decide_eq_true hl, Bool.and_true]
  apply Bool.eq_iff_iff.mpr
  simp only [Bool.and_eq_true, List.all_eq_true, decide_eq_true_eq, Bool.not_eq_true', List.any_eq_false, List.any_eq_true]
  constructor
  · rintro ⟨a, ⟨b, c⟩, d, e⟩
    refine ⟨b, fun x m => ?_⟩
    rw [← (az_at (a x m)).1, c x m, Bool.true_and]
    have := e x m
    simpa using this
  · rintro ⟨a, b⟩
    have lt : ∀ x ∈ l, x < 128 := fun x m => az_lt (b x m)
    have both : ∀ x ∈ l, Unicode.isAlpha x = true ∧ (Unicode.isUpper x || Unicode.isTitle x) = false := fun x m => by
      have q := (az_at (lt x m)).1
      rw [b x m, Bool.and_eq_true] at q
      exact ⟨q.1, by simpa using q.2⟩
    refine ⟨lt, ⟨a, fun x m => (both x m).1⟩, ?_, fun x m => by rw [(both x m).2]; simp⟩
    cases l with
    | nil => simp at a
    | cons x r => exact ⟨x, List.mem_cons_self, (az_at (lt x List.mem_cons_self)).2 (b x List.mem_cons_self)⟩
def spName : Sp := fun vs H Q _ => ∃ (v : V) (t : String), vs = [v] ∧ Kd H v t ∧ (∀ z, v = .str z → z.length ≤ 1000000) ∧ Q (.bl (nameB v)) H
theorem kit_str {K : PySem.W.Frag} {H : Hp} {v : V} {t : String} (k : Kd H v t) : PySem.W.kitOne K (.type t) (.type "str") = some (match v with | .str _ => true | _ => false) := by
  cases k <;> first | exact kit_ty (r := true) (by decide +kernel) | exact kit_ty (r := false) (by decide +kernel)
/-- a list's address (or any other's) is no text -/
theorem nameB_not {H : Hp} {v : V} {t : String} (k : Kd H v t) (h : ∀ z, v ≠ .str z) : nameB v = false := by
  cases k with
  | str z => exact absurd rfl (h z)
  | _ => rfl
section
variable {P : Program} {w : World} {K : PySem.W.Frag} {mg : Str → Option Value} {base : Heap}
theorem scName : FnScope ["value"] ["value"] (defScope sName) := ⟨rfl, rfl, rfl, by decide +kernel, rfl, by decide +kernel, by decide +kernel⟩
theorem ok_name {f : Addr} {fd : FuncData} {tk : Tok} (F : Fun K "is_name" "is_name" sName f fd) (T : Free mg) (gm : mg "MAX_LETTERS" = some (.int 8 tk)) : FnOk P w K mg base CX0 1 f fd ["value"] spName := by
  refine F.ok scName (fun vs H Q E h => ?_) (fun cdv A outer s H vs Q E hr h => ?_)
  · obtain ⟨v, t, rfl, _⟩ := h
    rfl
  · obtain ⟨v, t, rfl, kd, hz, q⟩ := h
    refine ⟨_, pss_cons (ps_if (PW.pt (pw_or (pt_not (pt_val (pe_callB call_isi (by rfl) T.isi (by decide +kernel) (pa_cons (pv 0) (pa_cons (pe_bltn (v := .ty "str") (by rfl) T.str (by decide +kernel) rfl) pa_nil)))))
        (pw_or1 (pt_cmpR op_gt (pe_callB call_len_str (by rfl) T.len PySem.boot_len (pa_cons (pv 0) pa_nil)) (pe_glob (v := .int 8) (by rfl) gm ⟨_, rfl⟩) (nomark _))))) (pss_one (ps_ret pe_bl)) pss_nil)
      (pss_one (ps_ret (pe_and (pe_bm0 PySem.F.plainAttrs_str PySem.F.slot_str_isascii PySem.F.type_str_isascii mt_isascii (pv 0))
        (pe_and (pe_bm0 PySem.F.plainAttrs_str PySem.F.slot_str_isalpha PySem.F.type_str_isalpha mt_isalpha (pv 0))
          (pe_one (pe_bm0 PySem.F.plainAttrs_str PySem.F.slot_str_islower PySem.F.type_str_islower mt_islower (pv 0))))))), ?_⟩
    refine ⟨_, rfl, v, _, _, _, _, rfl, .ty "str", kd.ty, kit_str kd, _, rfl, ?_⟩
    cases kd with
    | str z =>
      have l := hz z rfl
      refine iteF ⟨_, rfl, z, rfl, by rw [sizeLine_eq]; omega, _, _, rfl, rfl, _, rfl, ite2 (fun c => ?_) (fun c => ?_)⟩
      · have e : nameB (.str z) = false := by
          have c' := of_decide_eq_true c
          show (_ && _ && _) = false
          rw [decide_eq_false (show ¬ z.length ≤ 8 by omega), Bool.and_false, Bool.false_and]
        rw [e] at q
        exact q
      · have c' : ¬ (8 : Int) < z.length := fun h => c (decide_eq_true h)
        have e : nameB (.str z) = (Txt.isascii z && (Txt.isalpha z && Txt.islower z)) := (by_methods (by omega)).symm
        rw [e] at q
        refine ⟨_, rfl, rfl, z, rfl, rfl, trivial, _, rfl, ite2 (fun c1 => ?_) (fun c1 => ?_)⟩
        · rw [c1, Bool.true_and] at q
          refine ⟨_, rfl, rfl, z, rfl, rfl, trivial, _, rfl, ite2 (fun c2 => ?_) (fun c2 => ?_)⟩
          · rw [c2, Bool.true_and] at q
            exact ⟨_, rfl, rfl, z, rfl, rfl, trivial, q⟩
          · rw [Bool.eq_false_iff.mpr c2, Bool.false_and] at q
            exact q
        · rw [Bool.eq_false_iff.mpr c1, Bool.false_and] at q
          exact q
    | _ => exact iteT (iteT q)
end
/-! ### a list beside the empty one -/
def rEqE (K : PySem.W.Frag) : R2 := fun x y H Q => ∃ a b xs, x = .ref a ∧ y = .ref b ∧ SqL K H a xs ∧ SqL K H b [] ∧ Q (.bl xs.isEmpty) H
theorem op_eqE {X : Cx} (hu : X.A.units + 64 < cLine) : OpR X (compareOp .Eq) (rEqE X.K) := by
  intro pins s σ H x y v u Q I rx ry h
  obtain ⟨a, b, xs, rfl, rfl, ha, hb, q⟩ := h
  cases (show v = Value.ref a from rx)
  cases (show u = Value.ref b from ry)
  obtain ⟨us, r1, p1, _⟩ := I.list ha
  obtain ⟨ws, r2, p2, _⟩ := I.list hb
  have l2 : ws.length = 0 := r2.length.symm
  have l1 : us.length = xs.length := r1.length.symm
  cases xs with
  | nil =>
    have hsz : us.toArray.size = ws.toArray.size := by
      rw [List.size_toArray, List.size_toArray, l1, l2]
      rfl
    have z := SeqAt.RcAt.lists (e := fun _ => true) p1.isList p2.isList hsz (A := X.A) (s := s) (by omega) (fun j h1 h2 => by
      rw [List.size_toArray, l1] at h1
      exact absurd h1 (Nat.not_lt_zero _))
    rw [show ((List.range us.toArray.size).all fun _ => true) = true from List.all_eq_true.mpr fun _ _ => rfl] at z
    exact z X.prog X.w _ _ ⟨.bl true, H, I, rfl, q⟩
  | cons x r =>
    have hsz : (us.toArray.size != ws.toArray.size) = true := by
      rw [List.size_toArray, List.size_toArray, l1, l2]
      rfl
    exact SeqAt.RcAt.lists_lengths p1.isList p2.isList hsz (A := X.A) (s := s) (by omega) X.prog X.w _ _ ⟨.bl false, H, I, rfl, q⟩
/-- a comprehension over the signs of a text -/
theorem lc_signs {x : Str} {g : TG} {tt : TT} {te : TE} {vs : List Nat} {σ : L2.St} {H1 : Hp} {D : Addr} {Qd : Hp → Prop} (Pv : Nat → Hp → Prop) (h0 : Pv 0 (upd H1 D (.lst [])))
    (hs : ∀ i c H, x.cps[i]? = some c → Pv i H → g (.str ⟨#[c]⟩) (wipe σ vs) H fun σ2 H2 => wipe σ2 vs = wipe σ vs ∧ tt σ2 H2 fun b H3 =>
      if b = true then te σ2 H3 fun y H4 => ∃ acc, H4 D = some (.lst acc) ∧ acc.length < sizeLine ∧ Pv (i + 1) (upd H4 D (.lst (acc ++ [y]))) else Pv (i + 1) H3) (hd : ∀ H, Pv x.cps.size H → Qd H) :
    ∃ W : Nat → Nat → Hp → Prop, (∃ m, W 0 m (upd H1 D (.lst []))) ∧ ∀ i m H, W i m H →
      ((Its x).stop i H ∧ Qd H) ∨ ((Its x).go i H ∧ ∃ Nx : Hp → Prop, (∀ H', Nx H' → ∃ m', m' < m ∧ W (i + 1) m' H') ∧ ∀ y H', (Its x).yld i H y H' → g y (wipe σ vs) H' fun σ2 H2 => wipe σ2 vs = wipe σ vs ∧ tt σ2 H2 fun b H3 =>
        if b = true then te σ2 H3 fun y H4 => ∃ acc, H4 D = some (.lst acc) ∧ acc.length < sizeLine ∧ Nx (upd H4 D (.lst (acc ++ [y]))) else Nx H3) := by
  refine ⟨fun i m H => m = x.cps.size - i ∧ i ≤ x.cps.size ∧ Pv i H, ⟨x.cps.size, by simp, Nat.zero_le _, h0⟩, ?_⟩
  rintro i m H ⟨rfl, hi, p⟩
  rcases Nat.lt_or_ge i x.cps.size with lt | ge
  · refine .inr ⟨lt, Pv (i + 1), fun H' p' => ⟨x.cps.size - (i + 1), by omega, rfl, lt, p'⟩, fun y H' h => ?_⟩
    obtain ⟨rfl, c, hc, rfl⟩ := h
    exact hs i c _ hc p
  · obtain rfl : i = x.cps.size := Nat.le_antisymm hi ge
    exact .inl ⟨Nat.le_refl _, hd H p⟩
end Pr
namespace Pr
open PySem PySem.Spec PyProof.Rows L2 Gd
theorem tyR {K : PySem.W.Frag} {H : Hp} {a : Addr} {xs : List V} (h : Rd H a (.tup xs)) : TyX K H (.ref a) (.type "tuple") := by
  rcases h with h | ⟨o, h⟩
  · exact .base (.tup h)
  · exact .fTuple h
theorem Rd.same {H H' : Hp} {a : Addr} {u : HO} (h : Rd H a u) (s : Same H H') : Rd H' a u := by
  rcases h with h | ⟨o, h⟩
  · exact .inl (s _ _ h)
  · exact .inr ⟨o, s _ _ h⟩
theorem TXr {H : Hp} {a : Addr} {xs : List V} (h : Tx.TX H a xs) : Rd H a (.tup xs) := let ⟨o, e, _⟩ := h; .inr ⟨o, e⟩
end Pr
namespace Pr
open PySem PySem.Spec PyProof.Rows L2 Gd
/-! ### is_whole -/
/-- the arity of a word that is one -/
def arity (l : List (Str × Nat)) : V → Option Int
  | .str z => (match valV (dkv l) (.inr z : Key) with
    | some (.int a) => some a
    | _ => none)
  | _ => none
/-- whether xs are n trees, one behind the other -/
def wgo (l : List (Str × Nat)) : Int → List V → Bool
  | n, [] => decide (n = 0)
  | n, x :: xs => if n = 0 then false else match arity l x with
    | some a => wgo l (n + (a - 1)) xs
    | none => false
theorem wgo_zero {l : List (Str × Nat)} {n : Int} {x : V} {xs : List V} (h : n = 0) : wgo l n (x :: xs) = false := if_pos h
theorem wgo_none {l : List (Str × Nat)} {n : Int} {x : V} {xs : List V} (h : arity l x = none) : wgo l n (x :: xs) = false := by
  show (if n = 0 then false else match arity l x with | some a => wgo l (n + (a - 1)) xs | none => false) = false
  rw [h]
  exact ite_self _
theorem wgo_some {l : List (Str × Nat)} {n a : Int} {x : V} {xs : List V} (h0 : n ≠ 0) (h : arity l x = some a) : wgo l n (x :: xs) = wgo l (n + (a - 1)) xs := by
  show (if n = 0 then false else match arity l x with | some a => wgo l (n + (a - 1)) xs | none => false) = _
  rw [if_neg h0, h]
theorem val_int {z : Str} {v : V} : ∀ {l : List (Str × Nat)}, valV (dkv l) (.inr z : Key) = some v → ∃ a, v = .int a
  | [], h => nomatch h
  | p :: l, h => by
    have h' : valV ((.inr p.1, .int (p.2 : Int)) :: dkv l) (.inr z : Key) = some v := h
    by_cases e : (.inr p.1 : Key) = .inr z
    · rw [valV_pos e] at h'
      exact ⟨_, (Option.some.inj h').symm⟩
    · rw [valV_neg e] at h'
      exact val_int h'
def spWhole : Sp := fun vs H Q _ => ∃ (t a : Addr) (xs : List V) (l : List (Str × Nat)), vs = [.ref t, .ref a] ∧ Rd H t (.tup xs) ∧ (∀ x ∈ xs, ∃ ty, Kd H x ty) ∧ H a = some (.dK (dkv l)) ∧ Q (.bl (wgo l 1 xs)) H
section
variable {P : Program} {w : World} {K : PySem.W.Frag} {mg : Str → Option Value} {base : Heap}
theorem scWhole : FnScope ["words", "arities", "awaited", "word"] ["words", "arities"] (defScope sWhole) := ⟨rfl, rfl, rfl, by decide +kernel, rfl, by decide +kernel, by decide +kernel⟩
theorem ok_whole {f : Addr} {fd : FuncData} (F : Fun K "is_whole" "is_whole" sWhole f fd) (T : Free mg) : FnOk P w K mg base CX0 1 f fd ["words", "arities"] spWhole := by
  refine F.ok scWhole (fun vs H Q E h => ?_) (fun cdv A outer s H vs Q E hr h => ?_)
  · obtain ⟨t, a, xs, l, rfl, _⟩ := h
    rfl
  · obtain ⟨t, a, xs, l, rfl, ht, all, ha, q⟩ := h
    have hu := hr.units
    have hu1 : ∀ {u : Nat}, u + 64 < cLine → u + 1 < cLine := fun h => by omega
    refine ⟨_, pss_cons (ps_set (i := 2) scWhole.nd rfl (.inl rfl) pe_int) (pss_cons (ps_for PassesOwn.never rfl (pi_tup (pv 0)) (pg_name (i := 3) scWhole.nd rfl (.inl rfl)) (pss_cons (ps_if (PW.pt (pw_or (pt_cmpR op_eq (pv 2) pe_int (nomark _)) (pw_or (pt_not (pt_val (pe_callB call_isi (by rfl) T.isi (by decide +kernel) (pa_cons (pv 3) (pa_cons (pe_bltn (v := .ty "str") (by rfl) T.str (by decide +kernel) rfl) pa_nil))))) (pw_or1 (pt_cmp (pc_dnotin (hu1 hu) (pv 3) (pv 1))))))) (pss_one (ps_ret pe_bl)) pss_nil) (pss_one (ps_aug (i := 2) scWhole.nd rfl (.inl rfl) (pe_op op_sub (pe_dget (hu1 hu) (pv 1) (pv 3) (fun _ _ => rfl)) pe_int) ip_add)))) (pss_one (ps_ret (pe_cmpR op_eq (pv 2) pe_int (nomark _))))), ?_⟩
    refine ⟨_, rfl, t, rfl, ⟨_, Or.inl ht⟩, ?_⟩
    refine for_tup (K := K) (a := t) (xs := xs) (fun i σ H' => H' = H ∧ ∃ (n : Int) (v3 : Option V), σ = [some (.ref t), some (.ref a), some (.int n), v3] ∧ wgo l 1 xs = wgo l n (xs.drop i))
      ⟨rfl, 1, none, rfl, rfl⟩ (fun i σ H' _ ⟨e, _⟩ => by rw [e]; exact Or.inl ht) ?_ ?_
    · rintro i x σ H' hx ⟨rfl, n, v3, rfl, hw⟩
      have hd : xs.drop i = x :: xs.drop (i + 1) := by
        obtain ⟨hi, e⟩ := List.getElem?_eq_some_iff.mp hx
        rw [← e]
        exact List.drop_eq_getElem_cons hi
      obtain ⟨ty, kd⟩ := all x (List.mem_of_getElem? hx)
      rw [hd] at hw
      refine ⟨_, rfl, rfl, _, rfl, ?_⟩
      by_cases c : n = 0
      · refine if_true_of (decide_eq_true (by rw [c])) ?_
        rw [hw, wgo_zero c] at q
        exact q
      · refine if_false_of (decide_eq_false fun z => c (V.int.inj z)) ⟨_, rfl, x, _, _, _, _, rfl, .ty "str", kd.ty, kit_str kd, _, rfl, ?_⟩
        cases kd with
        | str z =>
          refine if_false_of rfl ⟨_, rfl, _, rfl, a, _, rfl, DGet.k (k := .inr z) ha, _, rfl, ?_⟩
          cases e : valV (dkv l) (.inr z : Key) with
          | none =>
            refine if_true_of rfl ?_
            have an : arity l (.str z) = none := by
              show (match valV (dkv l) (.inr z : Key) with | some (.int a) => some a | _ => none) = none
              rw [e]
            rw [hw, wgo_none an] at q
            exact q
          | some v =>
            obtain ⟨a1, rfl⟩ := val_int e
            have an : arity l (.str z) = some a1 := by
              show (match valV (dkv l) (.inr z : Key) with | some (.int a) => some a | _ => none) = some a1
              rw [e]
            refine if_false_of rfl ⟨_, rfl, _, rfl, _, rfl, a, _, rfl, e ▸ DGet.k (k := .inr z) ha, _, _, rfl, rfl, _, _, rfl, rfl, rfl, _, _, rfl, ?_⟩
            rw [hw, wgo_some c an]
        | _ =>
          refine if_true_of rfl ?_
          rw [hw, wgo_none rfl] at q
          exact q
    · rintro σ H' ⟨rfl, n, v3, rfl, hw⟩
      rw [List.drop_of_length_le (Nat.le_refl _)] at hw
      refine ⟨_, rfl, rfl, ?_⟩
      have e : decide (V.int n = V.int 0) = wgo l 1 xs := by
        rw [hw]
        show _ = decide (n = 0)
        rw [dec_int]
        by_cases c : n = 0 <;> simp [c]
      rw [e]
      exact q
end
end Pr

namespace Pr
open PySem PySem.Spec PyProof.Rows L2 Gd
/-! ### operators that are let -/
structure OpsOk (l : List (Str × Nat)) : Prop where
  few : 1 ≤ l.length ∧ l.length ≤ 8
  nd : (l.map (·.1)).Nodup
  name : ∀ p ∈ l, azB p.1 = true
  two : ∀ p ∈ l, p.2 ≤ 2
theorem Ars.ok {l : List (Str × Nat)} (h : Ars l) : OpsOk l := by
  refine ⟨by have := h.few; omega, h.nd, fun p m => ?_, h.two⟩
  have t : ∀ z ∈ Pr.pool, azB z = true := by decide +kernel
  exact t _ (h.pool p m)
theorem val_at {l : List (Str × Nat)} {i : Nat} {k : Key} {v : V} (h : (dkv l)[i]? = some (k, v)) : ∃ p, l[i]? = some p ∧ k = .inr p.1 ∧ v = .int (p.2 : Int) := by
  unfold dkv at h
  rw [List.getElem?_map] at h
  cases e : l[i]? with
  | none => rw [e] at h; cases h
  | some p =>
    rw [e] at h
    cases (Option.some.inj h)
    exact ⟨p, rfl, rfl, rfl⟩
theorem isInt_small {n : Nat} (h : n ≤ 2) : isIntO (.int (n : Int)) = true := by
  rw [isIntO_eq]
  show decide ((if (n : Int) < 0 then -(n : Int) else n) < 10 ^ (60 : Int).toNat) = true
  have e : ((10 : Int) ^ (60 : Int).toNat) = ((10 ^ 60 : Nat) : Int) := by decide +kernel
  rw [if_neg (by omega), e, decide_eq_true (by omega)]
def spAre : Sp := fun vs H Q _ => ∃ (a : Addr) (l : List (Str × Nat)), vs = [.ref a] ∧ H a = some (.dK (dkv l)) ∧ OpsOk l ∧ ∀ H', Same H H' → Q (.bl true) H'
section
variable {P : Program} {w : World} {K : PySem.W.Frag} {mg : Str → Option Value} {base : Heap} {fI fN : Addr} {dI dN : FuncData} {tk tk2 : Tok}
theorem scAre : FnScope ["value", "name"] ["value"] (defScope sAre) := ⟨rfl, rfl, rfl, by decide +kernel, rfl, by decide +kernel, by decide +kernel⟩
theorem ok_are {f : Addr} {fd : FuncData} (F : Fun K "are_arities" "are_arities" sAre f fd) (T : Free mg) (gm : mg "MAX_LETTERS" = some (.int 8 tk)) (gm2 : mg "MAX_OPERATORS" = some (.int 8 tk2)) (FN : Fun K "is_name" "is_name" sName fN dN) (bN : Binds K dN ["value"] []) (gN : mg "is_name" = some (.ref fN))
    (FI : Fun K "is_integer" "is_integer" sInteger fI dI) (bI : Binds K dI ["value"] []) (gI : mg "is_integer" = some (.ref fI)) : FnOk P w K mg base CX0 2 f fd ["value"] spAre := by
  have GN : FnOk P w K mg base CX0 1 fN dN ["value"] spName := ok_name FN T gm
  have GI : FnOk P w K mg base CX0 1 fI dI ["value"] spIntO := ok_integerO FI T
  refine F.ok scAre (fun vs H Q E h => ?_) (fun cdv A outer s H vs Q E hr h => ?_)
  · obtain ⟨a, l, rfl, _⟩ := h
    rfl
  · obtain ⟨a, l, rfl, ha, ok, q⟩ := h
    have hu := hr.units
    have hu1 : ∀ {u : Nat}, u + 64 < cLine → u + 1 < cLine := fun h => by omega
    refine ⟨_, pss_cons (ps_if (PW.pt (pw_or (pt_not (pt_val (pe_callB call_isi (by rfl) T.isi (by decide +kernel) (pa_cons (pv 0) (pa_cons (pe_bltn (v := .ty "dict") (by rfl) T.dict (by decide +kernel) rfl) pa_nil))))) (pw_or1 (pt_not (pt_chain op_le op_le pe_int (pe_callB call_lenD (by rfl) T.len PySem.boot_len (pa_cons (pv 0) pa_nil)) (pe_glob (v := .int 8) (by rfl) gm2 ⟨_, rfl⟩)))))) (pss_one (ps_ret pe_bl)) pss_nil) (pss_one (ps_ret (pe_callB (cr_all rfl) (by rfl) T.all (by decide +kernel) (pa_cons (pe_lock (pe_lc (own := [("name", 1)]) (g := gName 1) (by rfl) scAre.nd (pi_keys (pv 0)) (blkOk_by (own := [("name", 1)]) (N := ["value", "name"]) (sc := defScope sAre) (by decide +kernel)) (fun _ _ _ _ _ => pg_name (i := 1) scAre.nd rfl (Or.inl rfl)) (fun _ _ _ _ _ => pts_nil) (fun _ _ _ _ _ => pe_and (pe_call GN hr (by rfl) gN FN.kp bN .nil pass0 (pa_cons (pv 1) pa_nil)) (pe_and (pe_call GI hr (by rfl) gI FI.kp bI .nil pass0 (pa_cons (pe_dget (hu1 hu) (pv 0) (pv 1) (fun _ _ => rfl)) pa_nil)) (pe_one (pe_chain op_le op_le pe_int (pe_dget (hu1 hu) (pv 0) (pv 1) (fun _ _ => rfl)) pe_int)))))) pa_nil)))), ?_⟩
    have few := ok.few
    have ln : (dkv l).length = l.length := List.length_map _
    refine ⟨_, rfl, .ref a, _, _, _, true, rfl, .ty "dict", (Kd.dK ha).ty, kit_ty (r := true) (by decide +kernel), _, rfl, iteF ⟨_, rfl, a, _, rfl, ha, _, _, rfl, rfl, _, rfl, ?_⟩⟩
    refine if_true_of (decide_eq_true (by rw [ln]; omega)) ⟨_, _, rfl, rfl, _, rfl, ?_⟩
    have e8 : decide (((dkv l).length : Int) ≤ 8) = true := decide_eq_true (by rw [ln]; omega)
    rw [e8]
    refine if_false_of rfl ?_
    refine ⟨a, _, ha, trivial, fun od => ⟨_, rfl, a, od, rfl, .inl ⟨dkv l, upd_same, fun D nD => ?_⟩⟩⟩
    have aD : a ≠ D := ne_of_none upd_same nD
    have nHD : H D = none := by
      rw [upd_ne aD.symm] at nD
      exact nD
    refine lc_it walk_keys (fun i G => G D = some (.lst ((l.take i).map fun _ => V.bl true)) ∧ G a = some (.frz od (.dK (dkv l))) ∧ ∀ b u, b ≠ a → H b = some u → G b = some u) ⟨upd_same, by rw [upd_ne aD, upd_same], fun b u nb e => by rw [upd_ne (ne_of_none e nHD), upd_ne nb]; exact e⟩
      (fun i G _ ⟨_, h, _⟩ => h) ?_ ?_
    · rintro i x G G' hi ⟨eD, eA, sm⟩ ⟨rfl, k, v, hk, rfl⟩
      obtain ⟨p, hp, rfl, rfl⟩ := val_at hk
      have mp := List.mem_of_getElem? hp
      have vz := val_some ok.nd (show (p.1, p.2) ∈ l from mp)
      have dg : DGet G' a (kV (.inr p.1 : Key)) (some (.int (p.2 : Int))) := vz ▸ (.inl ⟨dkv l, .inr p.1, .inr ⟨od, eA⟩, rfl, rfl⟩)
      have two := ok.two p mp
      have nm : nameB (.str p.1) = true := ok.name p mp
      have z8 : p.1.length ≤ 1000000 := by
        have h := ok.name p mp
        have h2 : (decide (1 ≤ p.1.length) && decide (p.1.length ≤ 8) && p.1.cps.toList.all azC) = true := h
        simp only [Bool.and_eq_true, decide_eq_true_eq] at h2
        omega
      have isi := isInt_small two
      have e2 : decide ((p.2 : Int) ≤ 2) = true := decide_eq_true (by omega)
      refine ⟨rfl, _, rfl, .str p.1, "str", rfl, .str p.1, fun z e => by cases e; exact z8, _, rfl, if_true_of nm ⟨_, rfl, _, rfl, a, _, rfl, dg, .int (p.2 : Int), "int", rfl, .int _, _, rfl, if_true_of isi ⟨_, rfl, _, rfl, a, _, rfl, dg, _, _, rfl, rfl, _, rfl, if_true_of (decide_eq_true (by omega)) ⟨_, _, rfl, rfl, ?_⟩⟩⟩⟩
      refine ⟨_, eD, ?_, ?_, by rw [upd_ne aD]; exact eA, fun b u nb e => by rw [upd_ne (ne_of_none e nHD)]; exact sm b u nb e⟩
      · have := (List.getElem?_eq_some_iff.mp hp).1
        rw [List.length_map, List.length_take, sizeLine_eq]
        omega
      · rw [upd_same, List.take_add_one, hp, List.map_append]
        show some (HO.lst (_ ++ [V.bl (decide ((p.2 : Int) ≤ 2))])) = _
        rw [e2]
        rfl
    · rintro G ⟨eD, eA, sm⟩
      refine ⟨eA, D, l.map fun _ => true, rfl, SqL.of ?_, ?_⟩
      · rw [upd_ne aD.symm, eD, ln, List.take_of_length_le (Nat.le_refl _), List.map_map]
        rfl
      · have e : (l.map fun _ => true).all id = true := by simp
        rw [e]
        refine q _ fun b u hb => ?_
        by_cases c : b = a
        · rw [c] at hb ⊢
          rw [upd_same, ← ha, hb]
        · rw [upd_ne c]
          exact sm b u c hb
end
end Pr

/-! ### list(d.values()) -/
namespace Lv
open PySem PySem.Spec PyProof.Rows L2
def tListVals (te : TE) : TE := fun σ H Q => te σ H fun x H1 => ∃ (d : Addr) (kvs : List (Key × V)), x = .ref d ∧ H1 d = some (.dK kvs) ∧ ∀ p, H1 p = none → Q (.ref p) (upd H1 p (.lst (kvs.map (·.2))))
theorem vals_snd {kvs : List (Key × V)} {vs : List (Key × Value)} (r : KV kvs vs) : Vals (kvs.map (·.2)) (vs.map (·.2)) := by
  unfold KV at r
  induction r with
  | nil => exact .nil
  | cons r t ih => exact .cons r.2 ih
section
variable {X : Cx} {e : Expr} {te : TE} {p apos cpos pos : Pos}
theorem pe_listVals (hc : X.calm = true) (he : PE X e te) (hg : Gl X "list") (hm : X.mg "list" = none) (hv : bootBuiltins "list" = some (.type "list")) (hbase : attributeBase e "values" X.env (eval e X.env) = eval e X.env := by rfl) (hline : (apos.endLine == cpos.line) = true := by rfl)
    (hs : starEach [.Call (.Attribute e "values" apos) [] [] cpos] X.env = (false, eval (.Call (.Attribute e "values" apos) [] [] cpos) X.env) :: starEach [] X.env := by rfl) :
    PE X (.Call (.Name "list" p) [.Call (.Attribute e "values" apos) [] [] cpos] [] pos) (tListVals te) := by
  refine ⟨fun pins s σ H Q I hq => ?_⟩
  refine wpAny_Call_Name_kw (ld_blt I hg hm hv ?_)
  refine PyProof.Rows.callWith_type1 ?_ hs rfl
  rw [hs]
  show wpAny _ _ (spliced ((false, eval (.Call (.Attribute e "values" apos) [] [] cpos) X.env) :: backTo pos (starEach [] X.env))) _ _ s
  refine Calls.spliced_cons ?_
  refine wpAny_Call_method (T := "dict") (id := "dict.values") hbase rfl hline F.plainAttrs_dict F.slot_dict_values F.type_dict_values (thn (he.run pins s σ H _ I hq) fun u s1 ⟨x, H1, I1, rx, d, kvs, ex, hd, q⟩ => ?_)
  subst ex
  obtain rfl : u = Value.ref d := rx
  obtain ⟨hz, hs0, vs, kv, hdo⟩ := I1.hok d _ hd
  obtain ⟨ep, hat⟩ := hdo.dictAt
  have lk : kvs.length = vs.length := Paired.length kv
  have I2 : Inv X pins σ H1 { s1 with heap := s1.heap.push { cls := .type "dict_values", data := .fields #[.ref d] } } := I1.kept (t' := s1.toks) fun b ob q => Heap.get?_push_of_some _ q
  refine ⟨hdo.typeIs, hdo.mapOf.noDict, ?_⟩
  show wpAny _ _ (callWith cpos (.builtin "dict.values") [.ref d] [] []) _ X.xe s1
  refine method_meetsIn F.slot_dict_values F.entry_dict_values rfl (PySem.evalArgs_none ⟨rfl, hdo.typeIs, F.args_dict_values_1 _, _, meets_dict_values (mixKind X.prog X.w) d hs0, ⟨vs, hdo⟩, ?_⟩)
  refine Calls.spliced_nil ?_
  refine PySem.W.kdl_call (PySem.W.kdl_values (knd := mixKind X.prog X.w) (kvs := vs) (ep := ep)) (I1.ok.hd hc) ⟨⟨_, Heap.get?_push_size _ rfl, rfl, rfl⟩, hat.push _⟩ (by omega) fun h' tk acc c hk hS hacc => ?_
  have ev : acc.toList = vs.map (·.2) := PySem.W.kdl_vals_eq acc.toList (by rw [Array.length_toList]; exact hacc.1) fun j v e => hacc.2 j v (by rw [← Array.getElem?_toList]; exact e)
  refine ⟨.ref _, _, I2.laid (o := .lst (kvs.map (·.2))) (t' := tk) hk (Nat.le_refl _) ⟨by rw [List.length_map]; omega, vs.map (·.2), c, vals_snd kv, ?_⟩, rfl, q _ (I2.hok.fresh (Nat.le_refl _))⟩
  rw [← ev, Array.toArray_toList]
  exact hS
end
end Lv
namespace Pr
open PySem PySem.Spec PyProof.Rows L2 Gd
/-! ### Operators(arities) -/
/-- what is known of the class -/
structure OpF (K : PySem.W.Frag) (C : Addr) : Prop where
  cls : Cls K C
  n1 : NoAttr K C "_names"
  n2 : NoAttr K C "_arities"
  n3 : NoAttr K C "_lines"
  n4 : NoAttr K C "_many"
  n5 : NoAttr K C "_counts"
  n6 : NoAttr K C "_rows"
/-- operators over l at o -/
structure OpsAt (H : Hp) (C o : Addr) (l : List (Str × Nat)) : Prop where
  ex : ∃ (dx tn ta : Addr) (tl : Addr × Addr × Addr × Addr), H o = some (.ins C dx [("_names", .ref tn), ("_arities", .ref ta), ("_lines", .ref tl.1), ("_many", .ref tl.2.1), ("_counts", .ref tl.2.2.1), ("_rows", .ref tl.2.2.2)]) ∧ H tn = some (.tup (l.map fun p => V.str p.1)) ∧ H ta = some (.dK (dkv l))
theorem OpsAt.same {H H' : Hp} {C o : Addr} {l : List (Str × Nat)} (h : OpsAt H C o l) (s : Same H H') : OpsAt H' C o l :=
  let ⟨dx, tn, ta, tl, a, b, c⟩ := h.ex
  ⟨dx, tn, ta, tl, s _ _ a, s _ _ b, s _ _ c⟩
abbrev t_line : TE := fun σ H Q => tJs [tC (V.str "op "), tFmt (tVar 2), tC (V.str " "), tFmt (tDGet (tVar 1) (tVar 2))] Str.empty σ H fun out H1 => Q (V.str out) H1
/-- a statement that isn't met -/
def tNever : TS := fun _ _ _ => False
theorem ps_never {X : Cx} {st : Stmt} : PS X st tNever := ⟨fun _ _ _ _ _ _ h => False.elim h⟩
def spInit (C : Addr) : Sp := fun vs H Q _ => ∃ (x dx a : Addr) (l : List (Str × Nat)), vs = [.ref x, .ref a] ∧ H x = some (.ins C dx []) ∧ H a = some (.dK (dkv l)) ∧ OpsOk l ∧
  ∀ (l' : List (Str × Nat)) (H' : Hp), l'.Perm l → Kp x H H' → OpsAt H' C x l' → Q .non H'
section
variable {P : Program} {w : World} {K : PySem.W.Frag} {mg : Str → Option Value} {base : Heap} {C fA : Addr} {dA : FuncData}
theorem scInit : FnScope ["self", "arities", "name", "told"] ["self", "arities"] (defScope mInit) := ⟨rfl, rfl, rfl, by decide +kernel, rfl, by decide +kernel, by decide +kernel⟩
theorem ok_init {f : Addr} {fd : FuncData} (F : Fun K "__init__" "Operators.__init__" mInit f fd) (T : Free mg) (CF : OpF K C) (GA : FnOk P w K mg base CX0 2 fA dA ["value"] spAre) (FA : Fun K "are_arities" "are_arities" sAre fA dA) (bA : Binds K dA ["value"] []) (gA : mg "are_arities" = some (.ref fA)) :
    FnOk P w K mg base CX0 3 f fd ["self", "arities"] (spInit C) := by
  refine F.ok scInit (fun vs H Q E h => ?_) (fun cdv A outer s H vs Q E hr h => ?_)
  · obtain ⟨x, dx, a, l, rfl, _⟩ := h
    rfl
  · obtain ⟨x, dx, a, l, rfl, hx, ha, ok, q0⟩ := h
    have hu := hr.units
    have hu1 : ∀ {u : Nat}, u + 64 < cLine → u + 1 < cLine := fun h => by omega
    refine ⟨_, pss_cons (ps_if (pt_not (pt_val (pe_call GA hr (by rfl) gA FA.kp bA .nil pass0 (pa_cons (pv 1) pa_nil)))) (pss_one ps_never) pss_nil) (pss_cons (ps_fld (pv 0) (pe_callTy call_tuple_of (by rfl) T.tuple (by decide +kernel) (pa_cons (pe_callB (call_sortedD (by rfl)) (by rfl) T.sorted (by decide +kernel) (pa_cons (pv 1) pa_nil)) pa_nil)) rfl) (pss_cons (ps_fld (pv 0) (pe_dc (own := [("name", 2)]) (g := gName 2) (by rfl) scInit.nd (pi_tup (pe_fld (pv 0) rfl)) (blkOk_by (own := [("name", 2)]) (N := ["self", "arities", "name", "told"]) (sc := defScope mInit) (by decide +kernel)) (fun _ _ _ _ _ => pg_name (i := 2) scInit.nd rfl (Or.inl rfl)) (fun _ _ _ _ _ => pts_nil) (fun _ _ _ _ _ => pv 2) (fun _ _ _ _ _ => pe_dget (hu1 hu) (pv 1) (pv 2) (fun _ _ => rfl))) rfl) (pss_cons (ps_fld (pv 0) (pe_callTy call_tuple_of (by rfl) T.tuple (by decide +kernel) (pa_cons (pe_lc (own := [("name", 2)]) (g := gName 2) (by rfl) scInit.nd (pi_tup (pe_fld (pv 0) rfl)) (blkOk_by (own := [("name", 2)]) (N := ["self", "arities", "name", "told"]) (sc := defScope mInit) (by decide +kernel)) (fun _ _ _ _ _ => pg_name (i := 2) scInit.nd rfl (Or.inl rfl)) (fun _ _ _ _ _ => pts_nil) (fun _ _ _ _ _ => pe_joined (.cons pe_str (.cons (pe_fmt (pv 2)) (.cons pe_str (.cons (pe_fmt (pe_dget (hu1 hu) (pv 1) (pv 2) (fun _ _ => rfl))) .nil)))))) pa_nil)) rfl) (pss_cons (ps_set (i := 3) scInit.nd rfl (.inl rfl) (Lv.pe_listVals rfl (pv 1) (by rfl) T.list (by decide +kernel))) (pss_cons (ps_fld (pv 0) (pe_tup (pa_cons (pe_bm PySem.F.plainAttrs_list PySem.F.slot_list_count PySem.F.type_list_count mt_lcount (pv 3) (pa_cons pe_int pa_nil)) (pa_cons (pe_bm PySem.F.plainAttrs_list PySem.F.slot_list_count PySem.F.type_list_count mt_lcount (pv 3) (pa_cons pe_int pa_nil)) (pa_cons (pe_bm PySem.F.plainAttrs_list PySem.F.slot_list_count PySem.F.type_list_count mt_lcount (pv 3) (pa_cons pe_int pa_nil)) pa_nil)))) rfl) (pss_cons (ps_fld (pv 0) (pe_lst (pa_cons pe_int (pa_cons (pe_ix ix_tup (pe_fld (pv 0) rfl) pe_int (fun _ _ => rfl)) pa_nil))) rfl) (pss_one (ps_fld (pv 0) (pe_lst pa_nil) rfl)))))))), ?_⟩
    have few := ok.few
    have xa : x ≠ a := fun e => by
      rw [e, ha] at hx
      cases hx
    refine ⟨_, rfl, a, l, rfl, ha, ok, fun H1 s1 => ⟨_, rfl, if_false_of rfl ?_⟩⟩
    refine ⟨_, rfl, a, dkv l, l.map (·.1), rfl, Rd.of (s1 _ _ ha), by unfold dkv; rw [List.map_map, List.map_map]; rfl, by rw [List.length_map]; omega, fun ks ns pk _ nns => ?_⟩
    obtain ⟨l', pl, rfl⟩ := perm_map pk
    refine ⟨ns, _, rfl, .inl ⟨SqL.of upd_same, fun t nt => ?_⟩⟩
    have s2 := (s1.trans (Same.new nns (o := .lst ((l'.map (·.1)).map V.str)))).trans (Same.new nt (o := .tup ((l'.map (·.1)).map V.str)))
    have ht2 : (upd (upd H1 ns (.lst ((l'.map (·.1)).map V.str))) t (.tup ((l'.map (·.1)).map V.str))) t = some (.tup ((l'.map (·.1)).map V.str)) := upd_same
    generalize upd (upd H1 ns (.lst ((l'.map (·.1)).map V.str))) t (.tup ((l'.map (·.1)).map V.str)) = H2 at s2 ht2 ⊢
    have hx2 := s2 _ _ hx
    have xt : x ≠ t := fun e => by
      rw [e, ht2] at hx2
      cases hx2
    refine ⟨_, rfl, x, C, dx, [], rfl, hx2, CF.cls, CF.n1, by decide, ?_⟩
    have k3 : Kp x H (upd H2 x (.ins C dx (putF "_names" (.ref t) []))) := (Kp.same s2).trans Kp.upd
    have hx3 : (upd H2 x (.ins C dx (putF "_names" (.ref t) []))) x = some (.ins C dx [("_names", .ref t)]) := upd_same
    have ht3 : (upd H2 x (.ins C dx (putF "_names" (.ref t) []))) t = some (.tup ((l'.map (·.1)).map V.str)) := by rw [upd_ne xt.symm]; exact ht2
    have ha3 := k3 a _ xa.symm ha
    have ndl : (l'.map (·.1)).Nodup := (pl.map _).nodup_iff.mpr ok.nd
    have mem : ∀ {i : Nat} {v : V}, ((l'.map (·.1)).map V.str)[i]? = some v → ∃ p, l'[i]? = some p ∧ v = .str p.1 ∧ valV (dkv l) (.inr p.1 : Key) = some (.int (p.2 : Int)) ∧ p.2 ≤ 2 ∧ azB p.1 = true := fun {i v} h => by
      rw [List.map_map, List.getElem?_map] at h
      cases e : l'[i]? with
      | none => rw [e] at h; cases h
      | some p =>
        rw [e] at h
        have mp : p ∈ l := pl.mem_iff.mp (List.mem_of_getElem? e)
        exact ⟨p, rfl, (Option.some.inj h).symm, val_some ok.nd mp, ok.two p mp, ok.name p mp⟩
    have ll : l'.length ≤ 8 := by
      rw [pl.length_eq]
      omega
    generalize upd H2 x (.ins C dx (putF "_names" (.ref t) [])) = H3 at k3 hx3 ht3 ha3 ⊢
    -- _arities
    refine ⟨_, rfl, x, C, dx, _, _, rfl, hx3, CF.cls, CF.n1, rfl, t, rfl, ⟨_, SqT.of ht3⟩, fun D nD => ?_⟩
    refine dc_tup (K := K) (a := t) (xs := (l'.map (·.1)).map V.str) (fun i G => G D = some (.dK (dkv (l'.take i))) ∧ Same H3 G) ⟨upd_same, Same.new nD⟩ (fun i G _ ⟨_, s⟩ => SqT.of (s _ _ ht3)) ?_ ?_
    · rintro i v G hv ⟨eD, s⟩
      obtain ⟨p, hp, rfl, vz, two, _⟩ := mem hv
      have nz : p.1 ∉ (l'.take i).map (·.1) := fun m => by
        obtain ⟨j, hj, e⟩ := List.mem_iff_getElem.mp m
        rw [List.length_map, List.length_take] at hj
        obtain ⟨hi, ep⟩ := List.getElem?_eq_some_iff.mp hp
        have e2 : (l'.map (·.1))[j]'(by rw [List.length_map]; omega) = (l'.map (·.1))[i]'(by rw [List.length_map]; omega) := by
          rw [List.getElem_map, List.getElem_map, ep, ← e, List.getElem_map, List.getElem_take]
        have := (List.getElem_inj ndl).mp e2
        omega
      refine ⟨rfl, _, rfl, _, rfl, _, rfl, a, _, rfl, vz ▸ DGet.k (k := .inr p.1) (s _ _ ha3), dkv (l'.take i), .inr p.1, rfl, eD, ?_, ?_, fun b o q => by rw [upd_ne (ne_of_none q nD)]; exact s b o q⟩
      · have e : (dkv (l'.take i)).length = (l'.take i).length := List.length_map _
        rw [e, List.length_take, sizeLine_eq]
        omega
      · rw [upd_same, put_end nz, List.take_add_one, hp]
        rfl
    rintro G ⟨eD, s3⟩
    have eD : G D = some (.dK (dkv l')) := by
      have t0 := List.take_of_length_le (l := l') (i := ((l'.map (·.1)).map V.str).length) (by rw [List.length_map, List.length_map]; exact Nat.le_refl _)
      rw [t0] at eD
      exact eD
    refine ⟨_, rfl, x, C, dx, _, rfl, s3 _ _ hx3, CF.cls, CF.n2, Nat.le_of_ble_eq_true rfl, ?_⟩
    have xD : x ≠ D := ne_of_none hx3 nD
    have k4 : Kp x H (upd G x (.ins C dx (putF "_arities" (.ref D) [("_names", .ref t)]))) := (k3.trans (Kp.same s3)).trans Kp.upd
    have hx4 : (upd G x (.ins C dx (putF "_arities" (.ref D) [("_names", .ref t)]))) x = some (.ins C dx [("_names", .ref t), ("_arities", .ref D)]) := upd_same
    have ht4 : (upd G x (.ins C dx (putF "_arities" (.ref D) [("_names", .ref t)]))) t = some (.tup ((l'.map (·.1)).map V.str)) := by rw [upd_ne xt.symm]; exact s3 _ _ ht3
    have hD4 : (upd G x (.ins C dx (putF "_arities" (.ref D) [("_names", .ref t)]))) D = some (.dK (dkv l')) := by rw [upd_ne xD.symm]; exact eD
    have ha4 := k4 a _ xa.symm ha
    generalize upd G x (.ins C dx (putF "_arities" (.ref D) [("_names", .ref t)])) = H4 at k4 hx4 ht4 hD4 ha4 ⊢
    -- _lines
    refine ⟨_, rfl, x, C, dx, _, _, rfl, hx4, CF.cls, CF.n1, rfl, t, rfl, ⟨_, SqT.of ht4⟩, fun D2 nD2 => ?_⟩
    refine lc_tup (K := K) (a := t) (xs := (l'.map (·.1)).map V.str) (tt := tYes) (g := gName 2) (te := t_line) (vs := [2]) (fun i G => ∃ ss : List V, G D2 = some (.lst ss) ∧ ss.length = i ∧ Same H4 G) ⟨[], upd_same, rfl, Same.new nD2⟩ (fun i G _ ⟨_, _, _, s⟩ => SqT.of (s _ _ ht4)) ?_ ?_
    · rintro i v G2 hv ⟨ss, e2, ls, s⟩
      obtain ⟨p, hp, rfl, vz, two, az⟩ := mem hv
      have z8 : p.1.length ≤ 8 := by
        have h2 : (decide (1 ≤ p.1.length) && decide (p.1.length ≤ 8) && p.1.cps.toList.all azC) = true := az
        simp only [Bool.and_eq_true, decide_eq_true_eq] at h2
        omega
      have lg : ((p.2 : Int)).natAbs.log2 < 1920 := Nat.lt_of_le_of_lt (Nat.log2_le_self _) (by omega)
      have tl : (((toString (p.2 : Int) : String) : Str)).length ≤ 1921 := PyProof.Rows.int_text_len_1921 lg
      have il : i < 8 := by
        have := (List.getElem?_eq_some_iff.mp hp).1
        omega
      have n1 : (Str.empty ++ ("op " : Str)).length = 3 := rfl
      refine ⟨rfl, _, rfl, by rw [n1, sizeLine_eq]; decide, _, rfl, .inl ⟨p.1, rfl, by rw [sizeLine_eq]; omega, _, rfl, by rw [strLen_append, n1, sizeLine_eq]; omega, _, rfl, ?_, _, rfl, _, rfl, a, _, rfl, vz ▸ DGet.k (k := .inr p.1) (s _ _ ha4), .inr ⟨_, rfl, lg, _, rfl, ?_, ss, e2, by rw [sizeLine_eq]; omega, ss ++ [_], upd_same, by rw [List.length_append, ls]; rfl, fun b o q => by rw [upd_ne (ne_of_none q nD2)]; exact s b o q⟩⟩⟩
      · rw [strLen_append, strLen_append, n1, sizeLine_eq, show (" " : Str).length = 1 from rfl]
        omega
      · rw [strLen_append, strLen_append, strLen_append, n1, sizeLine_eq, show (" " : Str).length = 1 from rfl]
        have tl' : ((Str.ofString (toString (p.2 : Int)))).length ≤ 1921 := tl
        omega
    · rintro G2 ⟨ss, e2, ls, s⟩
      refine ⟨D2, ss, rfl, .inl ⟨SqL.of e2, fun t2 nt2 => ⟨_, rfl, x, C, dx, _, rfl, (Same.new nt2) _ _ (s _ _ hx4), CF.cls, CF.n3, Nat.le_of_ble_eq_true rfl, ?_⟩⟩⟩
      have s5 := s.trans (Same.new nt2 (o := .tup ss))
      have xt2 : x ≠ t2 := ne_of_none (s _ _ hx4) nt2
      have xa4 : a ≠ x := xa.symm
      have k5 : Kp x H (upd (upd G2 t2 (.tup ss)) x (.ins C dx (putF "_lines" (.ref t2) [("_names", .ref t), ("_arities", .ref D)]))) := (k4.trans (Kp.same s5)).trans Kp.upd
      have hx5 : (upd (upd G2 t2 (.tup ss)) x (.ins C dx (putF "_lines" (.ref t2) [("_names", .ref t), ("_arities", .ref D)]))) x = some (.ins C dx [("_names", .ref t), ("_arities", .ref D), ("_lines", .ref t2)]) := upd_same
      have ht5 : (upd (upd G2 t2 (.tup ss)) x (.ins C dx (putF "_lines" (.ref t2) [("_names", .ref t), ("_arities", .ref D)]))) t = some (.tup (l'.map fun p => V.str p.1)) := by
        rw [upd_ne xt.symm]
        have := s5 _ _ ht4
        rw [List.map_map] at this
        exact this
      have hD5 : (upd (upd G2 t2 (.tup ss)) x (.ins C dx (putF "_lines" (.ref t2) [("_names", .ref t), ("_arities", .ref D)]))) D = some (.dK (dkv l')) := by
        rw [upd_ne xD.symm]
        exact s5 _ _ hD4
      generalize upd (upd G2 t2 (.tup ss)) x (.ins C dx (putF "_lines" (.ref t2) [("_names", .ref t), ("_arities", .ref D)])) = H5 at k5 hx5 ht5 hD5 ⊢
      have ha5 := k5 a _ xa4 ha
      -- told
      refine ⟨_, rfl, a, dkv l, rfl, ha5, fun q nq => ?_⟩
      have s6 := Same.new nq (o := .lst ((dkv l).map (·.2)))
      have xq : x ≠ q := ne_of_none hx5 nq
      have hq6 : (upd H5 q (.lst ((dkv l).map (·.2)))) q = some (.lst ((l.map fun p => (p.2 : Int)).map V.int)) := by
        rw [upd_same]
        unfold dkv
        rw [List.map_map, List.map_map]
        rfl
      generalize upd H5 q (.lst ((dkv l).map (·.2))) = H6 at s6 hq6 ⊢
      have hx6 := s6 _ _ hx5
      have ht6 := s6 _ _ ht5
      have hD6 := s6 _ _ hD5
      have tyq : tyV K "list" (V.ref q) H6 := .inl ⟨rfl, _, SqL.of hq6⟩
      refine ⟨_, rfl, tyq, q, _, 0, rfl, rfl, SqL.of hq6, _, rfl, tyq, q, _, 1, rfl, rfl, SqL.of hq6, _, rfl, tyq, q, _, 2, rfl, rfl, SqL.of hq6, by show 3 ≤ sizeLine; decide, fun m nm => ?_⟩
      have s7 := Same.new nm (o := .tup [.int ((l.map fun p => (p.2 : Int)).count 0 : Nat), .int ((l.map fun p => (p.2 : Int)).count 1 : Nat), .int ((l.map fun p => (p.2 : Int)).count 2 : Nat)])
      have xm : x ≠ m := ne_of_none hx6 nm
      refine ⟨_, rfl, x, C, dx, _, rfl, s7 _ _ hx6, CF.cls, CF.n4, Nat.le_of_ble_eq_true rfl, ?_⟩
      have k7 : Kp x H (upd (upd H6 m (.tup [.int ((l.map fun p => (p.2 : Int)).count 0 : Nat), .int ((l.map fun p => (p.2 : Int)).count 1 : Nat), .int ((l.map fun p => (p.2 : Int)).count 2 : Nat)])) x (.ins C dx (putF "_many" (.ref m) [("_names", .ref t), ("_arities", .ref D), ("_lines", .ref t2)]))) := ((k5.trans (Kp.same s6)).trans (Kp.same s7)).trans Kp.upd
      have hx7 : (upd (upd H6 m (.tup [.int ((l.map fun p => (p.2 : Int)).count 0 : Nat), .int ((l.map fun p => (p.2 : Int)).count 1 : Nat), .int ((l.map fun p => (p.2 : Int)).count 2 : Nat)])) x (.ins C dx (putF "_many" (.ref m) [("_names", .ref t), ("_arities", .ref D), ("_lines", .ref t2)]))) x = some (.ins C dx [("_names", .ref t), ("_arities", .ref D), ("_lines", .ref t2), ("_many", .ref m)]) := upd_same
      have hm7 : (upd (upd H6 m (.tup [.int ((l.map fun p => (p.2 : Int)).count 0 : Nat), .int ((l.map fun p => (p.2 : Int)).count 1 : Nat), .int ((l.map fun p => (p.2 : Int)).count 2 : Nat)])) x (.ins C dx (putF "_many" (.ref m) [("_names", .ref t), ("_arities", .ref D), ("_lines", .ref t2)]))) m = some (.tup [.int ((l.map fun p => (p.2 : Int)).count 0 : Nat), .int ((l.map fun p => (p.2 : Int)).count 1 : Nat), .int ((l.map fun p => (p.2 : Int)).count 2 : Nat)]) := by rw [upd_ne xm.symm, upd_same]
      have ht7 : (upd (upd H6 m (.tup [.int ((l.map fun p => (p.2 : Int)).count 0 : Nat), .int ((l.map fun p => (p.2 : Int)).count 1 : Nat), .int ((l.map fun p => (p.2 : Int)).count 2 : Nat)])) x (.ins C dx (putF "_many" (.ref m) [("_names", .ref t), ("_arities", .ref D), ("_lines", .ref t2)]))) t = some (.tup (l'.map fun p => V.str p.1)) := by
        rw [upd_ne xt.symm]
        exact s7 _ _ ht6
      have hD7 : (upd (upd H6 m (.tup [.int ((l.map fun p => (p.2 : Int)).count 0 : Nat), .int ((l.map fun p => (p.2 : Int)).count 1 : Nat), .int ((l.map fun p => (p.2 : Int)).count 2 : Nat)])) x (.ins C dx (putF "_many" (.ref m) [("_names", .ref t), ("_arities", .ref D), ("_lines", .ref t2)]))) D = some (.dK (dkv l')) := by
        rw [upd_ne xD.symm]
        exact s7 _ _ hD6
      generalize upd (upd H6 m (.tup [.int ((l.map fun p => (p.2 : Int)).count 0 : Nat), .int ((l.map fun p => (p.2 : Int)).count 1 : Nat), .int ((l.map fun p => (p.2 : Int)).count 2 : Nat)])) x (.ins C dx (putF "_many" (.ref m) [("_names", .ref t), ("_arities", .ref D), ("_lines", .ref t2)])) = H7 at k7 hx7 hm7 ht7 hD7 ⊢
      -- _counts
      refine ⟨_, rfl, x, C, dx, _, _, rfl, hx7, CF.cls, CF.n4, rfl, m, _, _, _, rfl, rfl, SqT.of hm7, rfl, by show 2 ≤ sizeLine; decide, fun c nc => ?_⟩
      have xc : x ≠ c := ne_of_none hx7 nc
      have s8 := Same.new nc (o := .lst [.int 0, .int ((l.map fun p => (p.2 : Int)).count 0 : Nat)])
      refine ⟨_, rfl, x, C, dx, _, rfl, s8 _ _ hx7, CF.cls, CF.n5, Nat.le_of_ble_eq_true rfl, ?_⟩
      have k8 : Kp x H (upd (upd H7 c (.lst [.int 0, .int ((l.map fun p => (p.2 : Int)).count 0 : Nat)])) x (.ins C dx (putF "_counts" (.ref c) [("_names", .ref t), ("_arities", .ref D), ("_lines", .ref t2), ("_many", .ref m)]))) := (k7.trans (Kp.same s8)).trans Kp.upd
      have hx8 : (upd (upd H7 c (.lst [.int 0, .int ((l.map fun p => (p.2 : Int)).count 0 : Nat)])) x (.ins C dx (putF "_counts" (.ref c) [("_names", .ref t), ("_arities", .ref D), ("_lines", .ref t2), ("_many", .ref m)]))) x = some (.ins C dx [("_names", .ref t), ("_arities", .ref D), ("_lines", .ref t2), ("_many", .ref m), ("_counts", .ref c)]) := upd_same
      have ht8 : (upd (upd H7 c (.lst [.int 0, .int ((l.map fun p => (p.2 : Int)).count 0 : Nat)])) x (.ins C dx (putF "_counts" (.ref c) [("_names", .ref t), ("_arities", .ref D), ("_lines", .ref t2), ("_many", .ref m)]))) t = some (.tup (l'.map fun p => V.str p.1)) := by
        rw [upd_ne xt.symm]
        exact s8 _ _ ht7
      have hD8 : (upd (upd H7 c (.lst [.int 0, .int ((l.map fun p => (p.2 : Int)).count 0 : Nat)])) x (.ins C dx (putF "_counts" (.ref c) [("_names", .ref t), ("_arities", .ref D), ("_lines", .ref t2), ("_many", .ref m)]))) D = some (.dK (dkv l')) := by
        rw [upd_ne xD.symm]
        exact s8 _ _ hD7
      generalize upd (upd H7 c (.lst [.int 0, .int ((l.map fun p => (p.2 : Int)).count 0 : Nat)])) x (.ins C dx (putF "_counts" (.ref c) [("_names", .ref t), ("_arities", .ref D), ("_lines", .ref t2), ("_many", .ref m)])) = H8 at k8 hx8 ht8 hD8 ⊢
      -- _rows
      refine ⟨by show 0 ≤ sizeLine; decide, fun r nr => ?_⟩
      have s9 := Same.new nr (o := .lst [])
      refine ⟨_, rfl, x, C, dx, _, rfl, s9 _ _ hx8, CF.cls, CF.n6, Nat.le_of_ble_eq_true rfl, ?_⟩
      refine q0 l' _ pl ((k8.trans (Kp.same s9)).trans Kp.upd) ⟨dx, t, D, (t2, m, c, r), upd_same, ?_, ?_⟩
      · rw [upd_ne xt.symm]
        exact s9 _ _ ht8
      · rw [upd_ne xD.symm]
        exact s9 _ _ hD8
end
end Pr

namespace Pr
open PySem PySem.Spec PyProof.Rows L2 Gd
/-! ### right trees are let through -/
theorem fo_wgo {l : List (Str × Nat)} (nd : (l.map (·.1)).Nodup) : ∀ {n : Nat} {zs : List Str}, Fo l n zs → wgo l n (zs.map V.str) = true
  | _, _, .nil => rfl
  | _, _, .cons (z := z) (a := a) (n := n) (zs := zs) m h => by
    have an : arity l (.str z) = some (a : Int) := by
      show (match valV (dkv l) (.inr z : Key) with | some (.int a) => some a | _ => none) = some (a : Int)
      rw [val_some nd m]
    rw [List.map_cons, wgo_some (by omega) an]
    have e : ((n + 1 : Nat) : Int) + ((a : Int) - 1) = ((n + a : Nat) : Int) := by omega
    rw [e]
    exact fo_wgo nd h
theorem kd_strs {H : Hp} {zs : List Str} : ∀ x ∈ zs.map V.str, ∃ ty, Kd H x ty := fun x m => by
  obtain ⟨z, _, rfl⟩ := List.mem_map.mp m
  exact ⟨_, .str z⟩
/-- a tree over the operators at o -/
structure TreeAt (H : Hp) (C o t : Addr) (l : List (Str × Nat)) (zs : List Str) : Prop where
  ops : OpsAt H C o l
  tup : Rd H t (.tup (zs.map V.str))
  nd : (l.map (·.1)).Nodup
  fo : Fo l 1 zs
  few : zs.length ≤ 5000
  two : ∀ p ∈ l, p.2 ≤ 2
def spTree (C : Addr) : Sp := fun vs H Q _ => ∃ (o t : Addr) (l : List (Str × Nat)) (zs : List Str), vs = [.ref o, .ref t] ∧ TreeAt H C o t l zs ∧ Q (.bl true) H
def spChTree (C : Addr) : Sp := fun vs H Q _ => ∃ (o t : Addr) (l : List (Str × Nat)) (zs : List Str), vs = [.ref o, .ref t] ∧ TreeAt H C o t l zs ∧ Q .non H
def spChPlace (C : Addr) : Sp := fun vs H Q _ => ∃ (o t : Addr) (l : List (Str × Nat)) (zs : List Str) (p : Nat), vs = [.ref o, .ref t, .int (p : Int)] ∧ TreeAt H C o t l zs ∧ p < zs.length ∧ Q .non H
/-- the methods that the others call -/
structure Ms (K : PySem.W.Frag) (mg : Str → Option Value) (C fW fT fC fP fE fI fN : Addr) (dW dT dC dP dE dI dN : FuncData) (tk : Tok) : Prop where
  cf : OpF K C
  FW : Fun K "is_whole" "is_whole" sWhole fW dW
  bW : Binds K dW ["words", "arities"] []
  gW : mg "is_whole" = some (.ref fW)
  gM : mg "MAX_TREE" = some (.int 5000 tk)
  FT : Fun K "is_tree" "Operators.is_tree" mIsTree fT dT
  bT : Binds K dT ["self", "value"] []
  mT : Meth K C "is_tree" fT
  FC : Fun K "_check_tree" "Operators._check_tree" mChTree fC dC
  bC : Binds K dC ["self", "tree"] []
  mC : Meth K C "_check_tree" fC
  FP : Fun K "_check_place" "Operators._check_place" mChPlace fP dP
  bP : Binds K dP ["self", "tree", "place"] []
  mP : Meth K C "_check_place" fP
  FE : Fun K "_end" "Operators._end" m_End fE dE
  bE : Binds K dE ["self", "tree", "place"] []
  mE : Meth K C "_end" fE
  FI : Fun K "is_integer" "is_integer" sInteger fI dI
  bI : Binds K dI ["value"] []
  gI : mg "is_integer" = some (.ref fI)
  FN : Fun K "is_count" "is_count" sCount fN dN
  bN : Binds K dN ["value"] []
  gN : mg "is_count" = some (.ref fN)
section
variable {P : Program} {w : World} {K : PySem.W.Frag} {mg : Str → Option Value} {base : Heap} {C fW fT fC fP fE fI fN : Addr} {dW dT dC dP dE dI dN : FuncData} {tk : Tok}
theorem scIsTree : FnScope ["self", "value"] ["self", "value"] (defScope mIsTree) := ⟨rfl, rfl, rfl, by decide +kernel, rfl, by decide +kernel, by decide +kernel⟩
theorem ok_isTree (M : Ms K mg C fW fT fC fP fE fI fN dW dT dC dP dE dI dN tk) (T : Free mg) : FnOk P w K mg base CX0 2 fT dT ["self", "value"] (spTree C) := by
  have GW : FnOk P w K mg base CX0 1 fW dW ["words", "arities"] spWhole := ok_whole M.FW T
  refine M.FT.ok scIsTree (fun vs H Q E h => ?_) (fun cdv A outer s H vs Q E hr h => ?_)
  · obtain ⟨o, t, l, zs, rfl, _⟩ := h
    rfl
  · obtain ⟨o, t, l, zs, rfl, tr, q⟩ := h
    refine ⟨_, pss_one (ps_ret (pe_and (pe_callB call_isi (by rfl) T.isi (by decide +kernel) (pa_cons (pv 1) (pa_cons (pe_bltn (v := .ty "tuple") (by rfl) T.tuple (by decide +kernel) rfl) pa_nil))) (pe_and (pe_cmpR op_le (pe_callB call_len_seq (by rfl) T.len PySem.boot_len (pa_cons (pv 1) pa_nil)) (pe_glob (v := .int 5000) (by rfl) M.gM ⟨_, rfl⟩) (nomark _)) (pe_one (pe_call GW (hr.mono (by decide)) (by rfl) M.gW M.FW.kp M.bW .nil pass0 (pa_cons (pv 1) (pa_cons (pe_fld (pv 0) rfl) pa_nil))))))), ?_⟩
    obtain ⟨dx, tn, ta, tl, ho, hn, ha⟩ := tr.ops.ex
    refine ⟨_, rfl, .ref t, _, _, _, true, rfl, .ty "tuple", tyR tr.tup, kit_ty (r := true) (by decide +kernel), _, rfl, iteT ⟨_, rfl, t, _, rfl, .inr (Or.inl tr.tup), _, _, rfl, rfl, _, rfl, ?_⟩⟩
    refine if_true_of (decide_eq_true (by rw [List.length_map]; have := tr.few; omega)) ⟨_, rfl, _, rfl, o, C, dx, _, _, rfl, ho, M.cf.cls, M.cf.n2, rfl, t, ta, _, l, rfl, tr.tup, kd_strs, ha, ?_⟩
    have e : wgo l 1 (zs.map V.str) = true := fo_wgo tr.nd tr.fo
    rw [e]
    exact q
theorem scChTree : FnScope ["self", "tree"] ["self", "tree"] (defScope mChTree) := ⟨rfl, rfl, rfl, by decide +kernel, rfl, by decide +kernel, by decide +kernel⟩
theorem ok_chTree (M : Ms K mg C fW fT fC fP fE fI fN dW dT dC dP dE dI dN tk) (T : Free mg) : FnOk P w K mg base CX0 3 fC dC ["self", "tree"] (spChTree C) := by
  have GT : FnOk P w K mg base CX0 2 fT dT ["self", "value"] (spTree C) := ok_isTree M T
  refine M.FC.ok scChTree (fun vs H Q E h => ?_) (fun cdv A outer s H vs Q E hr h => ?_)
  · obtain ⟨o, t, l, zs, rfl, _⟩ := h
    rfl
  · obtain ⟨o, t, l, zs, rfl, tr, q⟩ := h
    refine ⟨_, pss_one (ps_if (pt_not (pt_val (pe_meth (pv 0) M.cf.cls M.mT GT hr M.bT .nil pass0 (pa_cons (pv 1) pa_nil)))) (pss_one ps_never) pss_nil), ?_⟩
    obtain ⟨dx, tn, ta, tl, ho, hn, ha⟩ := tr.ops.ex
    exact ⟨_, rfl, o, dx, _, rfl, ho, rfl, _, rfl, o, t, l, zs, rfl, tr, _, rfl, if_false_of rfl q⟩
theorem scChPlace : FnScope ["self", "tree", "place"] ["self", "tree", "place"] (defScope mChPlace) := ⟨rfl, rfl, rfl, by decide +kernel, rfl, by decide +kernel, by decide +kernel⟩
theorem ok_chPlace (M : Ms K mg C fW fT fC fP fE fI fN dW dT dC dP dE dI dN tk) (T : Free mg) : FnOk P w K mg base CX0 4 fP dP ["self", "tree", "place"] (spChPlace C) := by
  have GC : FnOk P w K mg base CX0 3 fC dC ["self", "tree"] (spChTree C) := ok_chTree M T
  have GN : FnOk P w K mg base CX0 2 fN dN ["value"] spCountO := ok_countO ⟨M.FI, M.bI, M.gI, M.FN, M.bN, M.gN⟩ T
  refine M.FP.ok scChPlace (fun vs H Q E h => ?_) (fun cdv A outer s H vs Q E hr h => ?_)
  · obtain ⟨o, t, l, zs, p, rfl, _⟩ := h
    rfl
  · obtain ⟨o, t, l, zs, p, rfl, tr, hp, q⟩ := h
    have r2 : Room 2 _ := hr.mono (by decide)
    refine ⟨_, pss_cons (ps_expr (pe_meth (pv 0) M.cf.cls M.mC GC hr M.bC .nil pass0 (pa_cons (pv 1) pa_nil))) (pss_one (ps_if (PW.pt (pw_or (pt_not (pt_val (pe_call GN r2 (by rfl) M.gN M.FN.kp M.bN .nil pass0 (pa_cons (pv 2) pa_nil)))) (pw_or1 (pt_cmpR op_ge (pv 2) (pe_callB call_len_seq (by rfl) T.len PySem.boot_len (pa_cons (pv 1) pa_nil)) (nomark _))))) (pss_one ps_never) pss_nil)), ?_⟩
    obtain ⟨dx, tn, ta, tl, ho, hn, ha⟩ := tr.ops.ex
    have few := tr.few
    have c : isCountO (.int (p : Int)) = true := nat_countO (Nat.lt_of_lt_of_le (show p < 5000 by omega) (by decide))
    refine ⟨_, rfl, o, dx, _, rfl, ho, rfl, _, rfl, o, t, l, zs, rfl, tr, _, rfl, .int (p : Int), "int", rfl, .int _, _, rfl, ?_⟩
    rw [c]
    exact if_false_of rfl ⟨_, rfl, _, rfl, t, _, rfl, .inr (Or.inl tr.tup), _, _, rfl, rfl, _, rfl, if_false_of (decide_eq_false (by rw [List.length_map]; omega)) q⟩
end
end Pr

namespace Pr
open PySem PySem.Spec PyProof.Rows L2 Gd
/-! ### where a subtree ends -/
def ar (l : List (Str × Nat)) (z : Str) : Nat := match valV (dkv l) (.inr z : Key) with
  | some (.int a) => a.toNat
  | _ => 0
theorem ar_eq {l : List (Str × Nat)} {z : Str} {a : Nat} (nd : (l.map (·.1)).Nodup) (m : (z, a) ∈ l) : ar l z = a := by
  show (match valV (dkv l) (.inr z : Key) with | some (.int a) => a.toNat | _ => 0) = a
  rw [val_some nd m]
  rfl
/-- how many words the first n trees take -/
def ext (l : List (Str × Nat)) : List Str → Nat → Nat
  | _, 0 => 0
  | [], _ => 0
  | z :: zs, n + 1 => 1 + ext l zs (n + ar l z)
theorem ext_zero {l : List (Str × Nat)} : ∀ zs : List Str, ext l zs 0 = 0
  | [] => rfl
  | _ :: _ => rfl
theorem Fo.drop {l : List (Str × Nat)} : ∀ {n : Nat} {zs : List Str} {j : Nat}, Fo l n zs → j < zs.length → ∃ m, Fo l (m + 1) (zs.drop j)
  | _, _, _, .nil, h => absurd h (Nat.not_lt_zero _)
  | _, _, 0, .cons m h, _ => ⟨_, .cons m h⟩
  | _, _, j + 1, .cons m h, hj => Fo.drop (j := j) h (Nat.lt_of_succ_lt_succ hj)
theorem Fo.len {l : List (Str × Nat)} : ∀ {n : Nat} {zs : List Str}, Fo l (n + 1) zs → 0 < zs.length
  | _, _, .cons _ _ => Nat.succ_pos _
def spEnd_ (C : Addr) : Sp := fun vs H Q _ => ∃ (o t : Addr) (l : List (Str × Nat)) (zs : List Str) (p : Nat), vs = [.ref o, .ref t, .int (p : Int)] ∧ TreeAt H C o t l zs ∧ p < zs.length ∧ Q (.int ((p + ext l (zs.drop p) 1 : Nat) : Int)) H
section
variable {P : Program} {w : World} {K : PySem.W.Frag} {mg : Str → Option Value} {base : Heap} {C fW fT fC fP fE fI fN : Addr} {dW dT dC dP dE dI dN : FuncData} {tk : Tok}
theorem scEnd_ : FnScope ["self", "tree", "place", "awaited", "at"] ["self", "tree", "place"] (defScope m_End) := ⟨rfl, rfl, rfl, by decide +kernel, rfl, by decide +kernel, by decide +kernel⟩
theorem ok_end_ (M : Ms K mg C fW fT fC fP fE fI fN dW dT dC dP dE dI dN tk) (T : Free mg) : FnOk P w K mg base CX0 1 fE dE ["self", "tree", "place"] (spEnd_ C) := by
  refine M.FE.ok scEnd_ (fun vs H Q E h => ?_) (fun cdv A outer s H vs Q E hr h => ?_)
  · obtain ⟨o, t, l, zs, p, rfl, _⟩ := h
    rfl
  · obtain ⟨o, t, l, zs, p, rfl, tr, hp, q⟩ := h
    have hu := hr.units
    have hu1 : ∀ {u : Nat}, u + 64 < cLine → u + 1 < cLine := fun h => by omega
    refine ⟨_, pss_cons (ps_set (i := 3) scEnd_.nd rfl (.inl rfl) pe_int) (pss_cons (ps_set (i := 4) scEnd_.nd rfl (.inl rfl) (pv 2)) (pss_cons (ps_while PassesOwn.never (pt_cmpR op_gt (pv 3) pe_int (nomark _)) (pss_cons (ps_aug (i := 3) scEnd_.nd rfl (.inl rfl) (pe_op op_sub (pe_dget (hu1 hu) (pe_fld (pv 0) rfl) (pe_ix ix_tup (pv 1) (pv 4) (fun _ _ => rfl)) (fun _ _ => rfl)) pe_int) ip_add) (pss_one (ps_aug (i := 4) scEnd_.nd rfl (.inl rfl) pe_int ip_add)))) (pss_one (ps_ret (pv 4))))), ?_⟩
    obtain ⟨dx, tn, ta, tl, ho, hn, ha⟩ := tr.ops.ex
    obtain ⟨r, fo⟩ := Fo.drop tr.fo hp
    refine ⟨_, rfl, ?_⟩
    refine while_by (fun σ H' => H' = H ∧ ∃ k j : Nat, σ = [some (.ref o), some (.ref t), some (.int (p : Int)), some (.int (k : Int)), some (.int (j : Int))] ∧ Fo l (k + r) (zs.drop j) ∧ j ≤ zs.length ∧ j + ext l (zs.drop j) k = p + ext l (zs.drop p) 1)
      (fun σ _ => match σ with | [_, _, _, _, some (.int j)] => zs.length - j.toNat | _ => 0) ⟨rfl, 1, p, rfl, by rw [Nat.add_comm]; exact fo, by omega, rfl⟩ ?_ (fun σ H Q Q' k h => by
        obtain ⟨v, hv, i, j, e1, e2, c, ec, q⟩ := h
        exact ⟨v, hv, i, j, e1, e2, c, ec, k _ _ q⟩)
    rintro σ H' ⟨rfl, k, j, rfl, f1, jl, ej⟩
    refine ⟨_, rfl, _, _, rfl, rfl, _, rfl, ?_⟩
    cases k with
    | zero =>
      refine if_false_of (by decide) ⟨_, rfl, ?_⟩
      rw [ext_zero] at ej
      have e : (j : Int) = ((p + ext l (zs.drop p) 1 : Nat) : Int) := by omega
      rw [e]
      exact q
    | succ k =>
      refine if_true_of (decide_eq_true (by omega)) ?_
      have jl2 : j < zs.length := by
        have e : k + 1 + r = (k + r) + 1 := by omega
        rw [e] at f1
        have := f1.len
        rw [List.length_drop] at this
        omega
      have hd : zs.drop j = zs[j] :: zs.drop (j + 1) := List.drop_eq_getElem_cons jl2
      rw [hd] at f1 ej
      obtain ⟨a, m, f2⟩ : ∃ a, (zs[j], a) ∈ l ∧ Fo l (k + r + a) (zs.drop (j + 1)) := by
        have e : k + 1 + r = (k + r) + 1 := by omega
        rw [e] at f1
        cases f1 with
        | cons m h => exact ⟨_, m, h⟩
      have vz := val_some tr.nd m
      have arz := ar_eq tr.nd m
      have hx : atI (zs.map V.str) (j : Int) = some (V.str zs[j]) := atI_nat (by rw [List.getElem?_map, List.getElem?_eq_getElem jl2]; rfl)
      refine ⟨_, rfl, _, rfl, o, C, dx, _, _, rfl, ho, M.cf.cls, M.cf.n2, rfl, _, rfl, _, rfl, t, _, _, _, rfl, rfl, Or.inl tr.tup, hx, ta, _, rfl, vz ▸ DGet.k (k := .inr zs[j]) ha, _, _, rfl, rfl, _, _, rfl, rfl, ?_⟩
      have e1 : ((k + 1 : Nat) : Int) + ((a : Int) - 1) = ((k + a : Nat) : Int) := by omega
      have e2 : (j : Int) + 1 = ((j + 1 : Nat) : Int) := by omega
      have ej2 : j + (1 + ext l (zs.drop (j + 1)) (k + ar l zs[j])) = p + ext l (zs.drop p) 1 := ej
      rw [arz] at ej2
      refine ⟨_, rfl, _, _, rfl, rfl, ⟨rfl, k + a, j + 1, ?_, ?_, by omega, by omega⟩, ?_⟩
      · show ([some (V.ref o), some (V.ref t), some (V.int (p : Int)), some (V.int (((k + 1 : Nat) : Int) + ((a : Int) - 1))), some (V.int ((j : Int) + 1))] : L2.St) = _
        rw [e1, e2]
      · have e : k + a + r = k + r + a := by omega
        rw [e]
        exact f2
      · show zs.length - ((j : Int) + 1).toNat < zs.length - (j : Int).toNat
        omega
end
end Pr

namespace Pr
open PySem PySem.Spec PyProof.Rows L2 Gd
/-! ### end, subtree, children -/
theorem ext_fo {l : List (Str × Nat)} (nd : (l.map (·.1)).Nodup) : ∀ {zs : List Str} {n m : Nat}, Fo l (n + m) zs → Fo l m (zs.drop (ext l zs n)) ∧ ext l zs n ≤ zs.length
  | zs, 0, m, h => by
    rw [ext_zero, List.drop_zero]
    rw [Nat.zero_add] at h
    exact ⟨h, Nat.zero_le _⟩
  | [], n + 1, m, h => by
    have e : n + 1 + m = (n + m) + 1 := by omega
    rw [e] at h
    exact absurd h.len (Nat.lt_irrefl _)
  | z :: zs, n + 1, m, h => by
    have e : n + 1 + m = (n + m) + 1 := by omega
    rw [e] at h
    cases h with
    | cons mm h =>
      rename_i a
      have e2 : n + m + a = (n + a) + m := by omega
      rw [e2] at h
      obtain ⟨h1, h2⟩ := ext_fo nd h
      have e3 : ext l (z :: zs) (n + 1) = ext l zs (n + a) + 1 := by
        show 1 + ext l zs (n + ar l z) = _
        rw [ar_eq nd mm, Nat.add_comm]
      rw [e3]
      exact ⟨h1, by rw [List.length_cons]; omega⟩
/-- the places of n trees from c on -/
def kidsFrom (l : List (Str × Nat)) (zs : List Str) : Nat → Nat → List Nat
  | _, 0 => []
  | c, n + 1 => c :: kidsFrom l zs (c + ext l (zs.drop c) 1) n
theorem kids_len {l : List (Str × Nat)} {zs : List Str} : ∀ {n c : Nat}, (kidsFrom l zs c n).length = n
  | 0, _ => rfl
  | n + 1, _ => congrArg (· + 1) kids_len
theorem TreeAt.same {H H' : Hp} {C o t : Addr} {l : List (Str × Nat)} {zs : List Str} (h : TreeAt H C o t l zs) (s : Same H H') : TreeAt H' C o t l zs := ⟨h.ops.same s, Rd.same h.tup s, h.nd, h.fo, h.few, h.two⟩
end Pr
namespace Pr
open PySem PySem.Spec PyProof.Rows L2 Gd
/-! ### where each subtree ends, from behind -/
theorem ext_nil {l : List (Str × Nat)} : ∀ n : Nat, ext l [] n = 0
  | 0 => rfl
  | _ + 1 => rfl
theorem ext_add {l : List (Str × Nat)} : ∀ (xs : List Str) (n m : Nat), ext l xs (n + m) = ext l xs n + ext l (xs.drop (ext l xs n)) m
  | xs, 0, m => by rw [ext_zero, List.drop_zero, Nat.zero_add, Nat.zero_add]
  | [], n + 1, m => by rw [ext_nil, ext_nil, List.drop_nil, ext_nil]
  | z :: xs, n + 1, m => by
    have e1 : n + 1 + m = (n + m) + 1 := by omega
    have e2 : n + m + ar l z = (n + ar l z) + m := by omega
    rw [e1]
    show 1 + ext l xs (n + m + ar l z) = 1 + ext l xs (n + ar l z) + ext l ((z :: xs).drop (1 + ext l xs (n + ar l z))) m
    rw [e2, ext_add xs (n + ar l z) m, Nat.add_comm 1 (ext l xs (n + ar l z)), List.drop_succ_cons]
    omega
/-- where the n trees from c on end, one after the other -/
def ends (l : List (Str × Nat)) (zs : List Str) : Nat → Nat → List Nat
  | _, 0 => []
  | c, n + 1 => (c + ext l (zs.drop c) 1) :: ends l zs (c + ext l (zs.drop c) 1) n
theorem ends_len {l : List (Str × Nat)} {zs : List Str} : ∀ {n c : Nat}, (ends l zs c n).length = n
  | 0, _ => rfl
  | n + 1, _ => congrArg (· + 1) ends_len
/-- after k trees from c on -/
def past (l : List (Str × Nat)) (zs : List Str) (c k : Nat) : Nat := c + ext l (zs.drop c) k
theorem past_succ {l : List (Str × Nat)} {zs : List Str} {c k : Nat} : past l zs c (k + 1) = past l zs c k + ext l (zs.drop (past l zs c k)) 1 := by
  unfold past
  rw [ext_add, List.drop_drop]
  omega
theorem ends_drop {l : List (Str × Nat)} {zs : List Str} : ∀ {k n c : Nat}, (ends l zs c (k + n)).drop k = ends l zs (past l zs c k) n
  | 0, n, c => by
    show (ends l zs c (0 + n)).drop 0 = ends l zs (c + ext l (zs.drop c) 0) n
    rw [ext_zero, List.drop_zero, Nat.zero_add, Nat.add_zero]
  | k + 1, n, c => by
    have e : k + 1 + n = (k + n) + 1 := by omega
    rw [e]
    show (ends l zs (c + ext l (zs.drop c) 1) (k + n)).drop k = _
    rw [ends_drop]
    have e2 : past l zs (c + ext l (zs.drop c) 1) k = past l zs c (k + 1) := by
      unfold past
      rw [show k + 1 = 1 + k by omega, ext_add (zs.drop c) 1 k, List.drop_drop]
      omega
    rw [e2]
theorem ends_cons {l : List (Str × Nat)} {zs : List Str} {c n : Nat} : ends l zs c (n + 1) = past l zs c 1 :: ends l zs (past l zs c 1) n := rfl
/-- the place behind the tree at j -/
def stopAt (l : List (Str × Nat)) (zs : List Str) (j : Nat) : Nat := past l zs j 1
theorem stop_eq {l : List (Str × Nat)} {zs : List Str} {j : Nat} (h : j < zs.length) : stopAt l zs j = past l zs (j + 1) (ar l zs[j]) := by
  unfold stopAt past
  rw [List.drop_eq_getElem_cons h]
  show j + (1 + ext l (zs.drop (j + 1)) (0 + ar l zs[j])) = _
  rw [Nat.zero_add]
  omega
end Pr

namespace Pr
open PySem PySem.Spec PyProof.Rows L2 Gd
/-! ### subtrees -/
def intV (c : Nat) : V := .int (c : Int)
/-- the subtree at p -/
def sub (l : List (Str × Nat)) (zs : List Str) (p : Nat) : List Str := (zs.drop p).take (ext l (zs.drop p) 1)
theorem Fo.take {l : List (Str × Nat)} (nd : (l.map (·.1)).Nodup) : ∀ {zs : List Str} {n m : Nat}, Fo l (n + m) zs → Fo l n (zs.take (ext l zs n))
  | zs, 0, m, h => by
    rw [ext_zero, List.take_zero]
    exact .nil
  | [], n + 1, m, h => by
    have e : n + 1 + m = (n + m) + 1 := by omega
    rw [e] at h
    cases h
  | z :: zs, n + 1, m, h => by
    have e : n + 1 + m = (n + m) + 1 := by omega
    rw [e] at h
    cases h with
    | cons mm h =>
      rename_i a
      have e2 : n + m + a = (n + a) + m := by omega
      rw [e2] at h
      have e3 : ext l (z :: zs) (n + 1) = ext l zs (n + a) + 1 := by
        show 1 + ext l zs (n + ar l z) = _
        rw [ar_eq nd mm, Nat.add_comm]
      rw [e3, List.take_succ_cons]
      exact .cons mm (Fo.take nd h)
theorem sub_fo {l : List (Str × Nat)} (nd : (l.map (·.1)).Nodup) {zs : List Str} (fo : Fo l 1 zs) {p : Nat} (hp : p < zs.length) : Fo l 1 (sub l zs p) := by
  obtain ⟨r, f⟩ := Fo.drop fo hp
  have f' : Fo l (1 + r) (zs.drop p) := by
    rw [Nat.add_comm]
    exact f
  exact Fo.take nd f'
theorem ar_perm {l l' : List (Str × Nat)} (nd : (l.map (·.1)).Nodup) (pm : l'.Perm l) (z : Str) : ar l' z = ar l z := by
  have nd' : (l'.map (·.1)).Nodup := (pm.map _).nodup_iff.mpr nd
  by_cases h : z ∈ l.map (·.1)
  · obtain ⟨⟨x, a⟩, hm, e⟩ := List.mem_map.mp h
    cases e
    rw [ar_eq nd hm, ar_eq nd' (pm.mem_iff.mpr hm)]
  · have h' : z ∉ l'.map (·.1) := fun m => h ((pm.map _).mem_iff.mp m)
    unfold ar
    rw [val_none h, val_none h']
theorem Fo.perm {l l' : List (Str × Nat)} (pm : l'.Perm l) : ∀ {n : Nat} {zs : List Str}, Fo l n zs → Fo l' n zs
  | _, _, .nil => .nil
  | _, _, .cons m h => .cons (pm.mem_iff.mpr m) (Fo.perm pm h)
theorem ext_perm {l l' : List (Str × Nat)} (nd : (l.map (·.1)).Nodup) (pm : l'.Perm l) : ∀ (zs : List Str) (n : Nat), ext l' zs n = ext l zs n
  | zs, 0 => by rw [ext_zero, ext_zero]
  | [], n + 1 => rfl
  | z :: zs, n + 1 => by
    show 1 + ext l' zs (n + ar l' z) = 1 + ext l zs (n + ar l z)
    rw [ar_perm nd pm, ext_perm nd pm zs]
theorem stop_perm {l l' : List (Str × Nat)} (nd : (l.map (·.1)).Nodup) (pm : l'.Perm l) (zs : List Str) (j : Nat) : stopAt l' zs j = stopAt l zs j := by
  unfold stopAt past
  rw [ext_perm nd pm]
end Pr
namespace Pr
open PySem PySem.Spec PyProof.Rows L2 Gd
/-! ### rows of names and of numbers, told apart -/
def strD (z : Str) : PyData := .str z
def natD (n : Nat) : PyData := .int (n : Int)
theorem dp_strs {K : PySem.W.Frag} {H : Hp} : ∀ zs : List Str, DpAll K H (zs.map V.str) (zs.map strD)
  | [] => .nil
  | z :: zs => .cons (.str z) (dp_strs zs)
theorem dp_nats {K : PySem.W.Frag} {H : Hp} : ∀ ns : List Nat, DpAll K H (ns.map intV) (ns.map natD)
  | [] => .nil
  | n :: ns => .cons (.int (n : Int)) (dp_nats ns)
theorem low_depth : ∀ {ds : List PyData}, (∀ d ∈ ds, d.depth = 0) → PyData.depthAll ds = 0
  | [], _ => rfl
  | d :: ds, h => by
    simp only [PyData.depthAll]
    rw [h d List.mem_cons_self, low_depth fun x m => h x (List.mem_cons_of_mem _ m)]
    rfl
theorem lay_all : ∀ {ds : List PyData}, (∀ d ∈ ds, d.canLay0 = true) → PyData.canLayAll0 ds = true
  | [], _ => rfl
  | d :: ds, h => by
    simp only [PyData.canLayAll0]
    rw [h d List.mem_cons_self, lay_all fun x m => h x (List.mem_cons_of_mem _ m)]
    rfl
theorem shaped_row {ds : List PyData} (h : ∀ d ∈ ds, d.depth = 0 ∧ d.canLay0 = true) : SeqAt.shaped (.tuple ds) = true := by
  have e : PyData.depth (.tuple ds) = PyData.depthAll ds + 1 := by simp only [PyData.depth]
  have e2 : PyData.canLay0 (.tuple ds) = PyData.canLayAll0 ds := by simp only [PyData.canLay0]
  unfold SeqAt.shaped
  rw [e, e2, low_depth fun d m => (h d m).1, lay_all fun d m => (h d m).2]
  rfl
theorem shaped_strs {zs : List Str} (h : ∀ z ∈ zs, PyData.strOk z = true) : SeqAt.shaped (.tuple (zs.map strD)) = true := shaped_row fun d m => by
  obtain ⟨z, hz, rfl⟩ := List.mem_map.mp m
  exact ⟨by unfold strD; simp only [PyData.depth], by unfold strD; simp only [PyData.canLay0]; exact h z hz⟩
theorem shaped_nats {ns : List Nat} : SeqAt.shaped (.tuple (ns.map natD)) = true := shaped_row fun d m => by
  obtain ⟨z, hz, rfl⟩ := List.mem_map.mp m
  exact ⟨by unfold natD; simp only [PyData.depth], by unfold natD; simp only [PyData.canLay0]⟩
theorem neT {K : PySem.W.Frag} {H : Hp} {x y : V} {Q : VK} {ds : List PyData} (hx : Dp K H x (.tuple ds)) (hy : Dp K H y (.tuple ds)) (hs : SeqAt.shaped (.tuple ds) = true) (q : Q (.bl false) H) : rNeD K x y H Q :=
  ⟨_, _, hx, hy, hs, hs, by rw [SeqAt.eqv_refl _ (SeqAt.canLay_of_shaped hs)]; exact q⟩
theorem eqT {K : PySem.W.Frag} {H : Hp} {x y : V} {Q : VK} {ds : List PyData} (hx : Dp K H x (.tuple ds)) (hy : Dp K H y (.tuple ds)) (hs : SeqAt.shaped (.tuple ds) = true) (q : Q (.bl true) H) : rEqD K x y H Q :=
  ⟨_, _, hx, hy, hs, hs, by rw [SeqAt.eqv_refl _ (SeqAt.canLay_of_shaped hs)]; exact q⟩
theorem neStrs {K : PySem.W.Frag} {H : Hp} {a b : Addr} {Q : VK} {zs : List Str} (ha : H a = some (.tup (zs.map V.str))) (hb : H b = some (.tup (zs.map V.str))) (hz : ∀ z ∈ zs, PyData.strOk z = true) (q : Q (.bl false) H) : rNeD K (.ref a) (.ref b) H Q :=
  neT (.tup (SqT.of ha) (dp_strs zs)) (.tup (SqT.of hb) (dp_strs zs)) (shaped_strs hz) q
theorem eqStrs {K : PySem.W.Frag} {H : Hp} {a b : Addr} {Q : VK} {zs : List Str} (ha : H a = some (.tup (zs.map V.str))) (hb : H b = some (.tup (zs.map V.str))) (hz : ∀ z ∈ zs, PyData.strOk z = true) (q : Q (.bl true) H) : rEqD K (.ref a) (.ref b) H Q :=
  eqT (.tup (SqT.of ha) (dp_strs zs)) (.tup (SqT.of hb) (dp_strs zs)) (shaped_strs hz) q
theorem neNats {K : PySem.W.Frag} {H : Hp} {a b : Addr} {Q : VK} {ns : List Nat} (ha : H a = some (.tup (ns.map intV))) (hb : H b = some (.tup (ns.map intV))) (q : Q (.bl false) H) : rNeD K (.ref a) (.ref b) H Q :=
  neT (.tup (SqT.of ha) (dp_nats ns)) (.tup (SqT.of hb) (dp_nats ns)) shaped_nats q
/-- a slice of a row of names -/
theorem cut_strs {zs : List Str} {p e : Nat} (hp : p ≤ zs.length) (he : e ≤ zs.length) (pe : p ≤ e) : cutV (zs.map V.str) (some (p : Int)) (some (e : Int)) = ((zs.drop p).take (e - p)).map V.str ∧ HT.sIx (zs.map V.str).length 0 (some (p : Int)) = p ∧ HT.sIx (zs.map V.str).length (zs.map V.str).length (some (e : Int)) = e := by
  have lz : (zs.map V.str).length = zs.length := List.length_map _
  have i1 : HT.sIx (zs.map V.str).length 0 (some (p : Int)) = p := by
    rw [HT.sIx_nat, lz]
    omega
  have i2 : HT.sIx (zs.map V.str).length (zs.map V.str).length (some (e : Int)) = e := by
    rw [HT.sIx_nat, lz]
    omega
  refine ⟨?_, i1, i2⟩
  unfold cutV
  rw [i1, i2, ← List.map_drop, ← List.map_take]
end Pr
namespace Pr
open PySem PySem.Spec PyProof.Rows L2 Gd
/-! ### rows of words at an address: joined, cut -/
/-- a row of words -/
def Ws (H : Hp) (a : Addr) (zs : List Str) : Prop := Rd H a (.tup (zs.map V.str))
/-- a row of words that is a plain tuple -/
def Wp (H : Hp) (a : Addr) (zs : List Str) : Prop := Tx.TX H a (zs.map V.str)
theorem Wp.ws {H : Hp} {a : Addr} {zs : List Str} (h : Wp H a zs) : Ws H a zs := TXr h
theorem Ws.same {H H' : Hp} {a : Addr} {zs : List Str} (h : Ws H a zs) (s : Same H H') : Ws H' a zs := Rd.same h s
theorem Wp.same {H H' : Hp} {a : Addr} {zs : List Str} (h : Wp H a zs) (s : Same H H') : Wp H' a zs := Tx.TX.same h s
theorem map_nil {zs : List Str} (h : zs.map V.str = []) : zs = [] := List.map_eq_nil_iff.mp h
/-- a + b -/
theorem catWs {K : PySem.W.Frag} {H : Hp} {a b : Addr} {xs ys : List Str} {Q : VK} (ha : Ws H a xs) (hb : Ws H b ys) (few : xs.length + ys.length ≤ sizeLine)
    (q : ∀ p H2, Same H H2 → Ws H2 p (xs ++ ys) → Q (.ref p) H2) : Tx.rCatY K (.ref a) (.ref b) H Q := by
  refine ⟨a, b, _, _, rfl, rfl, .inl ha, .inl hb, by rw [List.length_map, List.length_map]; exact few, fun e => ?_, fun _ e => ?_, fun p H2 _ s tx => ?_⟩
  · have e := map_nil e
    subst e
    exact q b H (Same.refl H) hb
  · have e := map_nil e
    subst e
    exact q a H (Same.refl H) (by rw [List.append_nil]; exact ha)
  · refine q p H2 s ?_
    have h := TXr tx
    rw [← List.map_append] at h
    exact h
/-- the same, plain: the second one is plain, and is not empty -/
theorem catWpR {K : PySem.W.Frag} {H : Hp} {a b : Addr} {xs ys : List Str} {Q : VK} (ha : Ws H a xs) (hb : Wp H b ys) (ne : ys ≠ []) (few : xs.length + ys.length ≤ sizeLine)
    (q : ∀ p H2, Same H H2 → Wp H2 p (xs ++ ys) → Q (.ref p) H2) : Tx.rCatY K (.ref a) (.ref b) H Q := by
  refine ⟨a, b, _, _, rfl, rfl, .inl ha, .inl hb.ws, by rw [List.length_map, List.length_map]; exact few, fun e => ?_, fun _ e => absurd (map_nil e) ne, fun p H2 _ s tx => ?_⟩
  · have e := map_nil e
    subst e
    exact q b H (Same.refl H) hb
  · refine q p H2 s ?_
    rw [← List.map_append] at tx
    exact tx
/-- the same, plain: the first one is plain, and is not empty -/
theorem catWpL {K : PySem.W.Frag} {H : Hp} {a b : Addr} {xs ys : List Str} {Q : VK} (ha : Wp H a xs) (hb : Ws H b ys) (ne : xs ≠ []) (few : xs.length + ys.length ≤ sizeLine)
    (q : ∀ p H2, Same H H2 → Wp H2 p (xs ++ ys) → Q (.ref p) H2) : Tx.rCatY K (.ref a) (.ref b) H Q := by
  refine ⟨a, b, _, _, rfl, rfl, .inl ha.ws, .inl hb, by rw [List.length_map, List.length_map]; exact few, fun e => absurd (map_nil e) ne, fun _ e => ?_, fun p H2 _ s tx => ?_⟩
  · have e := map_nil e
    subst e
    exact q a H (Same.refl H) (by rw [List.append_nil]; exact ha)
  · refine q p H2 s ?_
    rw [← List.map_append] at tx
    exact tx
/-- the same, plain: both are plain -/
theorem catWp {K : PySem.W.Frag} {H : Hp} {a b : Addr} {xs ys : List Str} {Q : VK} (ha : Wp H a xs) (hb : Wp H b ys) (few : xs.length + ys.length ≤ sizeLine)
    (q : ∀ p H2, Same H H2 → Wp H2 p (xs ++ ys) → Q (.ref p) H2) : Tx.rCatY K (.ref a) (.ref b) H Q := by
  by_cases ne : xs = []
  · by_cases ny : ys = []
    · subst ne ny
      exact ⟨a, b, _, _, rfl, rfl, .inl ha.ws, .inl hb.ws, by decide, fun e => q b H (Same.refl H) hb, fun h => absurd rfl h, fun p H2 _ s tx => q p H2 s tx⟩
    · exact catWpR ha.ws hb ny few q
  · exact catWpL ha hb.ws ne few q
/-- t[lo:hi] -/
theorem slRd {K : PySem.W.Frag} {H : Hp} {a : Addr} {xs : List V} {lo hi : Option Int} {Q : VK} (ha : Rd H a (.tup xs)) (q : ∀ p H2, Same H H2 → Rd H2 p (.tup (cutV xs lo hi)) → Q (.ref p) H2) : rSlA K (.ref a) lo hi H Q := by
  refine ⟨a, _, rfl, .inl ha, fun hw => ?_, fun _ p np => ?_⟩
  · refine q a H (Same.refl H) ?_
    rw [Tx.cut_whole hw]
    exact ha
  · exact q p _ (Same.new np) (.inl upd_same)
theorem cut_to {zs : List Str} {p : Nat} : cutV (zs.map V.str) none (some (p : Int)) = (zs.take p).map V.str := by
  have lz : (zs.map V.str).length = zs.length := List.length_map _
  have i1 : HT.sIx (zs.map V.str).length 0 none = 0 := rfl
  have i2 : HT.sIx (zs.map V.str).length (zs.map V.str).length (some (p : Int)) = min p zs.length := by
    rw [HT.sIx_nat, lz]
  unfold cutV
  rw [i1, i2, List.drop_zero, Nat.sub_zero, ← List.map_take]
  congr 1
  by_cases h : p ≤ zs.length
  · rw [Nat.min_eq_left h]
  · rw [Nat.min_eq_right (by omega), List.take_length, List.take_of_length_le (by omega)]
theorem cut_from {zs : List Str} {p : Nat} : cutV (zs.map V.str) (some (p : Int)) none = (zs.drop p).map V.str := by
  have lz : (zs.map V.str).length = zs.length := List.length_map _
  have i1 : HT.sIx (zs.map V.str).length 0 (some (p : Int)) = min p zs.length := by
    rw [HT.sIx_nat, lz]
  have i2 : HT.sIx (zs.map V.str).length (zs.map V.str).length none = zs.length := lz
  unfold cutV
  rw [i1, i2, ← List.map_drop]
  by_cases h : p ≤ zs.length
  · rw [Nat.min_eq_left h, List.take_of_length_le (by rw [List.length_map, List.length_drop]; omega)]
  · rw [Nat.min_eq_right (by omega), List.drop_of_length_le (Nat.le_refl _), List.drop_of_length_le (by omega), List.map_nil, List.take_nil]
theorem noPart {σ : L2.St} {H : Hp} {k : Option Int → Hp → Prop} (h : k none H) : tNoPart σ H k := h
theorem slTo {K : PySem.W.Frag} {H : Hp} {a : Addr} {zs : List Str} {p : Nat} {Q : VK} (ha : Ws H a zs) (q : ∀ b H2, Same H H2 → Ws H2 b (zs.take p) → Q (.ref b) H2) : rSlA K (.ref a) none (some (p : Int)) H Q :=
  slRd ha fun b H2 s h => q b H2 s (by rw [cut_to] at h; exact h)
theorem slFrom {K : PySem.W.Frag} {H : Hp} {a : Addr} {zs : List Str} {p : Nat} {Q : VK} (ha : Ws H a zs) (q : ∀ b H2, Same H H2 → Ws H2 b (zs.drop p) → Q (.ref b) H2) : rSlA K (.ref a) (some (p : Int)) none H Q :=
  slRd ha fun b H2 s h => q b H2 s (by rw [cut_from] at h; exact h)
theorem slMid {K : PySem.W.Frag} {H : Hp} {a : Addr} {zs : List Str} {p e : Nat} {Q : VK} (ha : Ws H a zs) (hp : p ≤ zs.length) (he : e ≤ zs.length) (pe : p ≤ e) (q : ∀ b H2, Same H H2 → Ws H2 b ((zs.drop p).take (e - p)) → Q (.ref b) H2) : rSlA K (.ref a) (some (p : Int)) (some (e : Int)) H Q :=
  slRd ha fun b H2 s h => q b H2 s (by rw [(cut_strs hp he pe).1] at h; exact h)
/-- equal rows -/
theorem neWs {K : PySem.W.Frag} {H : Hp} {a b : Addr} {Q : VK} {zs : List Str} (ha : Ws H a zs) (hb : Ws H b zs) (hz : ∀ z ∈ zs, PyData.strOk z = true) (q : Q (.bl false) H) : rNeD K (.ref a) (.ref b) H Q :=
  neT (.tup (.inl ha) (dp_strs zs)) (.tup (.inl hb) (dp_strs zs)) (shaped_strs hz) q
theorem eqWs {K : PySem.W.Frag} {H : Hp} {a b : Addr} {Q : VK} {zs : List Str} (ha : Ws H a zs) (hb : Ws H b zs) (hz : ∀ z ∈ zs, PyData.strOk z = true) (q : Q (.bl true) H) : rEqD K (.ref a) (.ref b) H Q :=
  eqT (.tup (.inl ha) (dp_strs zs)) (.tup (.inl hb) (dp_strs zs)) (shaped_strs hz) q
theorem flat_strs {zs : List Str} : (zs.map V.str).all flatV = true := by
  rw [List.all_eq_true]
  intro x m
  obtain ⟨z, _, rfl⟩ := List.mem_map.mp m
  rfl
end Pr
namespace Pr
open PySem PySem.Spec PyProof.Rows L2 Gd
/-- t[p:end] -/
theorem sub_eq {l : List (Str × Nat)} {zs : List Str} {p : Nat} : (zs.drop p).take (stopAt l zs p - p) = sub l zs p := by
  have e : stopAt l zs p - p = ext l (zs.drop p) 1 := by
    show p + ext l (zs.drop p) 1 - p = _
    omega
  rw [e]
  rfl
theorem stop_le {l : List (Str × Nat)} {zs : List Str} {p : Nat} (nd : (l.map (·.1)).Nodup) (fo : Fo l 1 zs) (hp : p < zs.length) : p ≤ stopAt l zs p ∧ stopAt l zs p ≤ zs.length := by
  obtain ⟨r, f⟩ := Fo.drop fo hp
  have f' : Fo l (1 + r) (zs.drop p) := by
    rw [Nat.add_comm]
    exact f
  have el := (ext_fo nd f').2
  rw [List.length_drop] at el
  have es : stopAt l zs p = p + ext l (zs.drop p) 1 := rfl
  omega
theorem slSubR {K : PySem.W.Frag} {H : Hp} {t : Addr} {l : List (Str × Nat)} {zs : List Str} {p : Nat} {Q : VK} (nd : (l.map (·.1)).Nodup) (fo : Fo l 1 zs) (hp : p < zs.length) (ht : Ws H t zs)
    (q : ∀ a H', Same H H' → Ws H' a (sub l zs p) → Q (.ref a) H') : rSlA K (.ref t) (some (p : Int)) (some ((p + ext l (zs.drop p) 1 : Nat) : Int)) H Q := by
  obtain ⟨h1, h2⟩ := stop_le nd fo hp
  have e : p + ext l (zs.drop p) 1 = stopAt l zs p := rfl
  rw [e]
  exact slMid ht (by omega) h2 h1 fun a H' s h => q a H' s (by rw [sub_eq] at h; exact h)
theorem ix_listK {X : Cx} {K : PySem.W.Frag} (h : X.K = K) : IxR X (rIxL K) := h ▸ ix_list
theorem sub_mem {l : List (Str × Nat)} {zs : List Str} {p : Nat} {z : Str} (h : z ∈ sub l zs p) : z ∈ zs := List.mem_of_mem_drop (List.mem_of_mem_take h)
structure MtF (K : PySem.W.Frag) (C : Addr) (name qual : Str) (st : Stmt) (f : Addr) (fd : FuncData) (ps : List Str) : Prop where
  F : Fun K name qual st f fd
  b : Binds K fd ps []
  m : Meth K C name f
theorem atI_last {α : Type} {ys : List α} {v : α} : atI (ys ++ [v]) (-1) = some v := by
  unfold atI ixN
  have e : (ys ++ [v]).length = ys.length + 1 := by simp
  have e3 : (-1 + ((ys.length + 1 : Nat) : Int)).toNat = ys.length := by omega
  rw [if_neg (by decide), e, if_pos (by omega)]
  show (ys ++ [v])[(-1 + ((ys.length + 1 : Nat) : Int)).toNat]? = some v
  rw [e3]
  simp
theorem join {H : Hp} {R : Hp → Prop} {A : Prop} (f : (∀ G, Same H G → R G) → A) (g : ∀ G, Same H G → R G) : A := f g
theorem neSelf {v : V} : (!decide (v = v)) = false := by rw [decide_eq_true rfl]; rfl
end Pr
namespace Pr
open PySem PySem.Spec PyProof.Rows L2 Gd
/-! ### contexts -/
def hole : Str := "_"
/-- the operators and the hole -/
def lH (l : List (Str × Nat)) : List (Str × Nat) := l ++ [(hole, 0)]
theorem Fo.mono {l L : List (Str × Nat)} (h : ∀ p ∈ l, p ∈ L) : ∀ {n : Nat} {zs : List Str}, Fo l n zs → Fo L n zs
  | _, _, .nil => .nil
  | _, _, .cons m f => .cons (h _ m) (f.mono h)
theorem Fo.up {l : List (Str × Nat)} {n : Nat} {zs : List Str} (f : Fo l n zs) : Fo (lH l) n zs := f.mono fun _ m => List.mem_append_left _ m
theorem Fo.join {l : List (Str × Nat)} : ∀ {j k : Nat} {xs ys : List Str}, Fo l j xs → Fo l k ys → Fo l (j + k) (xs ++ ys)
  | _, k, _, _, .nil, g => by
    rw [Nat.zero_add]
    exact g
  | _, k, _, _, .cons (n := n) (a := a) m f, g => by
    have h := Fo.join f g
    have e : n + 1 + k = (n + k) + 1 := by omega
    have e2 : n + a + k = n + k + a := by omega
    rw [e]
    rw [e2] at h
    exact .cons m h
theorem Fo.cutl {l : List (Str × Nat)} (nd : (l.map (·.1)).Nodup) : ∀ {j k : Nat} {xs ys : List Str}, Fo l j xs → Fo l (j + k) (xs ++ ys) → Fo l k ys
  | _, k, _, _, .nil, g => by
    rw [Nat.zero_add] at g
    exact g
  | _, k, _, _, .cons (n := n) (a := a) m f, g => by
    have e : n + 1 + k = (n + k) + 1 := by omega
    rw [e] at g
    cases g with
    | cons m2 g =>
      rename_i a2
      have ea : a = a2 := (ar_eq nd m).symm.trans (ar_eq nd m2)
      subst ea
      have e2 : n + k + a = n + a + k := by omega
      rw [e2] at g
      exact Fo.cutl nd f g
theorem Fo.pre {l : List (Str × Nat)} : ∀ {xs ys : List Str} {n : Nat}, Fo l n (xs ++ ys) → ∃ m, Fo l m ys ∧ ∀ zs, Fo l m zs → Fo l n (xs ++ zs)
  | [], ys, n, h => ⟨n, h, fun _ g => g⟩
  | x :: xs, ys, n, h => by
    cases h with
    | cons m h =>
      obtain ⟨k, f, re⟩ := Fo.pre h
      exact ⟨k, f, fun zs g => .cons m (re zs g)⟩
/-- one tree in the place of another one -/
theorem Fo.swap {l : List (Str × Nat)} (nd : (l.map (·.1)).Nodup) {n : Nat} {a x y b : List Str} (h : Fo l n (a ++ (x ++ b))) (fx : Fo l 1 x) (fy : Fo l 1 y) : Fo l n (a ++ (y ++ b)) := by
  obtain ⟨m, f, re⟩ := Fo.pre h
  have pos : 0 < m := by
    cases fx with
    | cons mm g =>
      cases f with
      | cons m2 g2 => exact Nat.succ_pos _
  obtain ⟨k, rfl⟩ : ∃ k, m = 1 + k := ⟨m - 1, by omega⟩
  exact re _ (Fo.join fy (Fo.cutl nd fx f))
theorem lH_nd {l : List (Str × Nat)} (nd : (l.map (·.1)).Nodup) (no : hole ∉ l.map (·.1)) : ((lH l).map (·.1)).Nodup := by
  unfold lH
  rw [List.map_append, List.nodup_append]
  refine ⟨nd, by simp, fun x hx y hy e => ?_⟩
  rw [List.map_cons, List.map_nil, List.mem_singleton] at hy
  rw [e, hy] at hx
  exact no hx
theorem Fo.low {l : List (Str × Nat)} : ∀ {n : Nat} {zs : List Str}, Fo (lH l) n zs → hole ∉ zs → Fo l n zs
  | _, _, .nil, _ => .nil
  | _, _, .cons (z := z) (a := a) m f, h => by
    rcases List.mem_append.mp m with m | m
    · exact .cons m (f.low fun x => h (List.mem_cons_of_mem _ x))
    · have e : (z, a) = (hole, 0) := List.mem_singleton.mp m
      cases e
      exact absurd List.mem_cons_self h
theorem Fo.noH {l : List (Str × Nat)} (no : hole ∉ l.map (·.1)) : ∀ {n : Nat} {zs : List Str}, Fo l n zs → hole ∉ zs
  | _, _, .nil, h => by cases h
  | _, _, .cons m f, h => by
    rcases List.mem_cons.mp h with e | h
    · rw [← e] at m
      exact no (List.mem_map_of_mem (f := fun p : Str × Nat => p.1) m)
    · exact f.noH no h
theorem fo_hole {l : List (Str × Nat)} : Fo (lH l) 1 [hole] := .cons (List.mem_append_right _ List.mem_cons_self) .nil
/-- a context, by what stands ahead of its hole and behind it -/
structure IsC (l : List (Str × Nat)) (a b : List Str) : Prop where
  na : hole ∉ a
  nb : hole ∉ b
  fo : Fo (lH l) 1 (a ++ hole :: b)
def cxt (a b : List Str) : List Str := a ++ hole :: b
theorem IsC.hole0 {l : List (Str × Nat)} : IsC l [] [] := ⟨by simp, by simp, fo_hole⟩
/-- a tree in a context -/
theorem IsC.put {l : List (Str × Nat)} (nd : (l.map (·.1)).Nodup) (no : hole ∉ l.map (·.1)) {a b v : List Str} (c : IsC l a b) (fv : Fo l 1 v) : Fo l 1 (a ++ (v ++ b)) := by
  have h : Fo (lH l) 1 (a ++ ([hole] ++ b)) := c.fo
  refine (Fo.swap (lH_nd nd no) h fo_hole fv.up).low fun m => ?_
  rcases List.mem_append.mp m with m | m
  · exact c.na m
  · rcases List.mem_append.mp m with m | m
    · exact fv.noH no m
    · exact c.nb m
/-- a context in a context -/
theorem IsC.putC {l : List (Str × Nat)} (nd : (l.map (·.1)).Nodup) (no : hole ∉ l.map (·.1)) {a b a2 b2 : List Str} (c : IsC l a b) (c2 : IsC l a2 b2) : IsC l (a ++ a2) (b2 ++ b) := by
  have h : Fo (lH l) 1 (a ++ ([hole] ++ b)) := c.fo
  have f := Fo.swap (lH_nd nd no) h fo_hole c2.fo
  refine ⟨fun m => ?_, fun m => ?_, ?_⟩
  · rcases List.mem_append.mp m with m | m
    · exact c.na m
    · exact c2.na m
  · rcases List.mem_append.mp m with m | m
    · exact c2.nb m
    · exact c.nb m
  · have e : a ++ ((a2 ++ hole :: b2) ++ b) = (a ++ a2) ++ hole :: (b2 ++ b) := by simp
    rw [e] at f
    exact f
/-- a tree cut at a place -/
theorem cut_ctx {l : List (Str × Nat)} (nd : (l.map (·.1)).Nodup) (no : hole ∉ l.map (·.1)) {zs : List Str} (fo : Fo l 1 zs) {p : Nat} (hp : p < zs.length) :
    zs = zs.take p ++ (sub l zs p ++ zs.drop (stopAt l zs p)) ∧ IsC l (zs.take p) (zs.drop (stopAt l zs p)) := by
  have e : zs = zs.take p ++ (sub l zs p ++ zs.drop (stopAt l zs p)) := by
    have e1 : zs.drop (stopAt l zs p) = (zs.drop p).drop (ext l (zs.drop p) 1) := by
      rw [List.drop_drop]
      rfl
    unfold sub
    rw [e1, List.take_append_drop, List.take_append_drop]
  refine ⟨e, fun m => fo.noH no (List.mem_of_mem_take m), fun m => fo.noH no (List.mem_of_mem_drop m), ?_⟩
  have h := fo.up
  rw [e] at h
  exact Fo.swap (lH_nd nd no) h (sub_fo nd fo hp).up fo_hole
/-- what is_whole says of rows of words -/
theorem wgo_fo {l : List (Str × Nat)} : ∀ {zs : List Str} {n : Nat}, wgo l (n : Int) (zs.map V.str) = true → (∀ z v, valV (dkv l) (.inr z : Key) = some v → ∃ a, (z, a) ∈ l ∧ v = .int (a : Int)) → Fo l n zs
  | [], n, h, _ => by
    have e : ((n : Nat) : Int) = 0 := of_decide_eq_true h
    have e2 : n = 0 := by omega
    rw [e2]
    exact .nil
  | z :: zs, 0, h, _ => by
    rw [List.map_cons, wgo_zero (by rfl)] at h
    cases h
  | z :: zs, n + 1, h, at_ => by
    cases ea : arity l (.str z) with
    | none =>
      rw [List.map_cons, wgo_none ea] at h
      cases h
    | some a =>
      have ev : ∃ v, valV (dkv l) (.inr z : Key) = some v ∧ v = .int a := by
        have ea' : (match valV (dkv l) (.inr z : Key) with | some (.int a) => some a | _ => none) = some a := ea
        cases e : valV (dkv l) (.inr z : Key) with
        | none =>
          rw [e] at ea'
          cases ea'
        | some v =>
          obtain ⟨b, hb, rfl⟩ := at_ z v e
          rw [e] at ea'
          cases ea'
          exact ⟨_, rfl, rfl⟩
      obtain ⟨v, e1, rfl⟩ := ev
      obtain ⟨b, hb, e2⟩ := at_ z _ e1
      cases e2
      rw [List.map_cons, wgo_some (by omega) ea] at h
      have e3 : ((n + 1 : Nat) : Int) + ((b : Int) - 1) = ((n + b : Nat) : Int) := by omega
      rw [e3] at h
      exact .cons hb (wgo_fo h at_)
theorem val_in {l : List (Str × Nat)} : ∀ z v, valV (dkv l) (.inr z : Key) = some v → ∃ a, (z, a) ∈ l ∧ v = .int (a : Int) := by
  induction l with
  | nil => intro z v h; cases h
  | cons p l ih =>
    intro z v h
    have h' : valV ((.inr p.1, .int (p.2 : Int)) :: dkv l) (.inr z : Key) = some v := h
    by_cases e : (.inr p.1 : Key) = .inr z
    · rw [valV_pos e] at h'
      have e' : p.1 = z := Sum.inr.inj e
      exact ⟨p.2, by rw [← e']; exact List.mem_cons_self, (Option.some.inj h').symm⟩
    · rw [valV_neg e] at h'
      obtain ⟨a, m, ev⟩ := ih z v h'
      exact ⟨a, List.mem_cons_of_mem _ m, ev⟩
theorem wgo_ctx {l : List (Str × Nat)} (no : hole ∉ l.map (·.1)) {a b : List Str} : wgo l 1 ((cxt a b).map V.str) = false := by
  cases e : wgo l 1 ((cxt a b).map V.str) with
  | false => rfl
  | true =>
    have f := wgo_fo (n := 1) e val_in
    exact absurd (List.mem_append_right _ List.mem_cons_self) (f.noH no)
theorem dkv_lH {l : List (Str × Nat)} : dkv l ++ [(.inr hole, .int 0)] = dkv (lH l) := by
  unfold lH dkv
  rw [List.map_append]
  rfl
/-- how often the hole stands in a row -/
def isHole (z : Str) : Bool := eqV (V.str z) (V.str hole)
theorem countP_none {p : Str → Bool} : ∀ {xs : List Str}, (∀ x ∈ xs, p x = false) → xs.countP p = 0
  | [], _ => rfl
  | x :: xs, h => by
    rw [List.countP_cons, countP_none (fun y m => h y (List.mem_cons_of_mem _ m)), h x List.mem_cons_self]
    rfl
theorem isHole_no {xs : List Str} (h : hole ∉ xs) : ∀ x ∈ xs, isHole x = false := fun x m => by
  cases e : isHole x with
  | false => rfl
  | true =>
    have e' : (x == hole) = true := e
    rw [eq_of_beq e'] at m
    exact absurd m h
theorem count_ctx {a b : List Str} (na : hole ∉ a) (nb : hole ∉ b) : (cxt a b).countP isHole = 1 := by
  unfold cxt
  rw [List.countP_append, List.countP_cons, countP_none (isHole_no na), countP_none (isHole_no nb)]
  rfl
theorem count_no {xs : List Str} (h : hole ∉ xs) : xs.countP isHole = 0 := countP_none (isHole_no h)
end Pr
namespace Pr
open PySem PySem.Spec PyProof.Rows L2 Gd
/-! ### is_tree of any row of words; is_context -/
/-- what is_tree says -/
def treeB (l : List (Str × Nat)) (zs : List Str) : Bool := decide (zs.length ≤ 5000) && wgo l 1 (zs.map V.str)
/-- what is_context says -/
def ctxB (l : List (Str × Nat)) (zs : List Str) : Bool := decide (zs.length ≤ 5000) && (decide (zs.countP isHole = 1) && wgo (lH l) 1 (zs.map V.str))
def spTreeB (C : Addr) : Sp := fun vs H Q _ => ∃ (o t : Addr) (l : List (Str × Nat)) (zs : List Str), vs = [.ref o, .ref t] ∧ OpsAt H C o l ∧ Ws H t zs ∧ Q (.bl (treeB l zs)) H
def spCtxB (C : Addr) : Sp := fun vs H Q _ => ∃ (o t : Addr) (l : List (Str × Nat)) (zs : List Str), vs = [.ref o, .ref t] ∧ OpsAt H C o l ∧ hole ∉ l.map (·.1) ∧ l.length ≤ 8 ∧ Wp H t zs ∧ ∀ H2, Same H H2 → Q (.bl (ctxB l zs)) H2
section
variable {P : Program} {w : World} {K : PySem.W.Frag} {mg : Str → Option Value} {base : Heap} {C fW fT fC fP fE fI fN : Addr} {dW dT dC dP dE dI dN : FuncData} {tk tk2 : Tok}
theorem ok_treeB (M : Ms K mg C fW fT fC fP fE fI fN dW dT dC dP dE dI dN tk) (T : Free mg) : FnOk P w K mg base CX0 2 fT dT ["self", "value"] (spTreeB C) := by
  have GW : FnOk P w K mg base CX0 1 fW dW ["words", "arities"] spWhole := ok_whole M.FW T
  refine M.FT.ok scIsTree (fun vs H Q E h => ?_) (fun cdv A outer s H vs Q E hr h => ?_)
  · obtain ⟨o, t, l, zs, rfl, _⟩ := h
    rfl
  · obtain ⟨o, t, l, zs, rfl, op, ht, q⟩ := h
    refine ⟨_, pss_one (ps_ret (pe_and (pe_callB call_isi (by rfl) T.isi (by decide +kernel) (pa_cons (pv 1) (pa_cons (pe_bltn (v := .ty "tuple") (by rfl) T.tuple (by decide +kernel) rfl) pa_nil))) (pe_and (pe_cmpR op_le (pe_callB call_len_seq (by rfl) T.len PySem.boot_len (pa_cons (pv 1) pa_nil)) (pe_glob (v := .int 5000) (by rfl) M.gM ⟨_, rfl⟩) (nomark _)) (pe_one (pe_call GW (hr.mono (by decide)) (by rfl) M.gW M.FW.kp M.bW .nil pass0 (pa_cons (pv 1) (pa_cons (pe_fld (pv 0) rfl) pa_nil))))))), ?_⟩
    obtain ⟨dx, tn, ta, tl, ho, hn, ha⟩ := op.ex
    refine ⟨_, rfl, .ref t, _, _, _, true, rfl, .ty "tuple", tyR ht, kit_ty (r := true) (by decide +kernel), _, rfl, iteT ⟨_, rfl, t, _, rfl, .inr (.inl ht), _, _, rfl, rfl, _, rfl, ?_⟩⟩
    have lz : (zs.map V.str).length = zs.length := List.length_map _
    by_cases c : zs.length ≤ 5000
    · refine if_true_of (decide_eq_true (by rw [lz]; omega)) ⟨_, rfl, _, rfl, o, C, dx, _, _, rfl, ho, M.cf.cls, M.cf.n2, rfl, t, ta, _, l, rfl, ht, kd_strs, ha, ?_⟩
      have e : treeB l zs = wgo l 1 (zs.map V.str) := by
        unfold treeB
        rw [decide_eq_true c, Bool.true_and]
      rw [← e]
      exact q
    · have e : treeB l zs = false := by
        unfold treeB
        rw [decide_eq_false c, Bool.false_and]
      rw [e] at q
      exact if_false_of (decide_eq_false (by rw [lz]; omega)) q
theorem scIsCtx : FnScope ["self", "value"] ["self", "value"] (defScope mIsCtx) := ⟨rfl, rfl, rfl, by decide +kernel, rfl, by decide +kernel, by decide +kernel⟩
theorem sameU {H G : Hp} {b : Addr} {o : HO} (s : Same H G) (n : H b = none) : Same H (upd G b o) := fun a u e => by
  rw [upd_ne (ne_of_none e n)]
  exact s a u e
theorem dkv_keys {l : List (Str × Nat)} {z : Str} (h : z ∉ l.map (·.1)) : (.inr z : Key) ∉ (dkv l).map (·.1) := by
  unfold dkv
  rw [List.map_map]
  intro m
  obtain ⟨p, hp, e⟩ := List.mem_map.mp m
  have e : (.inr p.1 : Key) = .inr z := e
  exact h (Sum.inr.inj e ▸ List.mem_map_of_mem (f := fun p : Str × Nat => p.1) hp)
theorem ok_isCtx {f : Addr} {fd : FuncData} (F : Fun K "is_context" "Operators.is_context" mIsCtx f fd) (M : Ms K mg C fW fT fC fP fE fI fN dW dT dC dP dE dI dN tk) (gH : mg "HOLE" = some (.str hole tk2)) (T : Free mg) : FnOk P w K mg base CX0 2 f fd ["self", "value"] (spCtxB C) := by
  have GW : FnOk P w K mg base CX0 1 fW dW ["words", "arities"] spWhole := ok_whole M.FW T
  refine F.ok scIsCtx (fun vs H Q E h => ?_) (fun cdv A outer s H vs Q E hr h => ?_)
  · obtain ⟨o, t, l, zs, rfl, _⟩ := h
    rfl
  · obtain ⟨o, t, l, zs, rfl, op, no, few, ht, q⟩ := h
    refine ⟨_, pss_cons (ps_if (PW.pt (pw_or (pt_not (pt_val (pe_callB call_isi (by rfl) T.isi (by decide +kernel) (pa_cons (pv 1) (pa_cons (pe_bltn (v := .ty "tuple") (by rfl) T.tuple (by decide +kernel) rfl) pa_nil)))))
        (pw_or (pt_cmpR op_gt (pe_callB call_len_seq (by rfl) T.len PySem.boot_len (pa_cons (pv 1) pa_nil)) (pe_glob (v := .int 5000) (by rfl) M.gM ⟨_, rfl⟩) (nomark _))
          (pw_or1 (pt_cmpR op_ne (Tx.pe_tm PySem.F.slot_tuple_count PySem.F.type_tuple_count Tb.mt_tcount (pv 1) (pa_cons (pe_glob (v := .str hole) (by rfl) gH ⟨_, rfl⟩) pa_nil)) pe_int (nomark _)))))) (pss_one (ps_ret pe_bl)) pss_nil)
      (pss_one (ps_ret (pe_call GW (hr.mono (by decide)) (by rfl) M.gW M.FW.kp M.bW .nil pass0 (pa_cons (pv 1) (pa_cons (Du.pe_dunp (pe_fld (pv 0) rfl) (pe_glob (v := .str hole) (by rfl) gH ⟨_, rfl⟩) pe_int) pa_nil))))), ?_⟩
    obtain ⟨dx, tn, ta, tl, ho, hn, ha⟩ := op.ex
    have lz : (zs.map V.str).length = zs.length := List.length_map _
    refine ⟨_, rfl, .ref t, _, _, _, true, rfl, .ty "tuple", tyR ht.ws, kit_ty (r := true) (by decide +kernel), _, rfl, if_false_of rfl ⟨_, rfl, t, _, rfl, .inr (.inl ht.ws), _, _, rfl, rfl, _, rfl, ?_⟩⟩
    by_cases c : zs.length ≤ 5000
    · refine if_false_of (decide_eq_false (by rw [lz]; omega)) ⟨_, rfl, ⟨t, _, rfl, ht⟩, t, _, _, rfl, rfl, .inl ht.ws, rfl, flat_strs, ?_⟩
      have ec : ((zs.map V.str).countP fun y => eqV y (V.str hole)) = zs.countP isHole := by
        rw [List.countP_map]
        rfl
      rw [ec]
      by_cases c2 : zs.countP isHole = 1
      · refine ⟨rfl, _, rfl, if_false_of (by rw [c2]; exact neSelf) ?_⟩
        refine ⟨_, rfl, fun p np => ?_⟩
        have s1 : Same H (upd H p (.dK [])) := Same.new np
        refine ⟨_, rfl, o, C, dx, _, _, rfl, s1 _ _ ho, M.cf.cls, M.cf.n2, rfl, ta, _, rfl, fun z => ?_, upd_same, s1 _ _ ha, fun q2 nq => ?_⟩
        · rw [z, np] at ha
          cases ha
        have nHq : H q2 = none := by
          cases e : H q2 with
          | none => rfl
          | some v =>
            have ne : q2 ≠ p := ne_of_none e np
            rw [upd_ne ne, upd_ne ne, e] at nq
            cases nq
        have pq : p ≠ q2 := ne_of_none upd_same nq
        have sF : Same H (upd (upd (upd (upd (upd H p (.dK [])) p (.dK (dkv l))) q2 (.dK [])) q2 (.dK [((.inr hole : Key), V.int 0)])) p (.dK (dkv l ++ [((.inr hole : Key), V.int 0)]))) := sameU (sameU (sameU (sameU s1 np) nHq) nHq) np
        refine ⟨.inr hole, rfl, upd_same, by rw [upd_ne pq, upd_same], dkv_keys no, by unfold dkv; rw [List.length_map]; omega, t, p, zs.map V.str, lH l, rfl, Ws.same ht.ws sF, kd_strs, by rw [upd_same, dkv_lH], ?_⟩
        have e : ctxB l zs = wgo (lH l) 1 (zs.map V.str) := by
          unfold ctxB
          rw [decide_eq_true c, decide_eq_true c2, Bool.true_and, Bool.true_and]
        rw [← e]
        exact q _ sF
      · have e : ctxB l zs = false := by
          unfold ctxB
          rw [decide_eq_false c2, Bool.false_and, Bool.and_false]
        have q := q H (Same.refl H)
        rw [e] at q
        exact ⟨rfl, _, rfl, if_true_of (by rw [decide_eq_false fun z => c2 (by have := V.int.inj z; omega)]; rfl) q⟩
    · have e : ctxB l zs = false := by
        unfold ctxB
        rw [decide_eq_false c, Bool.false_and]
      have q := q H (Same.refl H)
      rw [e] at q
      exact if_true_of (decide_eq_true (by rw [lz]; omega)) q
end
end Pr
namespace Pr
open PySem PySem.Spec PyProof.Rows L2 Gd
/-! ### cut, replaced -/
/-- the pair of a context and a tree at r -/
def PairAt (H : Hp) (r : Addr) (a b v : List Str) : Prop := ∃ c u, Rd H r (.tup [.ref c, .ref u]) ∧ Wp H c (cxt a b) ∧ Ws H u v
theorem PairAt.same {H H' : Hp} {r : Addr} {a b v : List Str} (h : PairAt H r a b v) (s : Same H H') : PairAt H' r a b v := let ⟨c, u, h1, h2, h3⟩ := h; ⟨c, u, Rd.same h1 s, h2.same s, h3.same s⟩
def spCut (C : Addr) : Sp := fun vs H Q _ => ∃ (o t : Addr) (l : List (Str × Nat)) (zs : List Str) (p : Nat), vs = [.ref o, .ref t, .int (p : Int)] ∧ TreeAt H C o t l zs ∧ p < zs.length ∧
  ∀ r H', Same H H' → PairAt H' r (zs.take p) (zs.drop (stopAt l zs p)) (sub l zs p) → Q (.ref r) H'
/-- what a TooMany of 5000 keeps -/
def errL : HO := .xd [(("limit" : Str), .int 5000)]
def spRepl (C CT : Addr) : Sp := fun vs H Q E => ∃ (o t t2 : Addr) (l : List (Str × Nat)) (zs ys : List Str) (p : Nat), vs = [.ref o, .ref t, .int (p : Int), .ref t2] ∧ TreeAt H C o t l zs ∧ p < zs.length ∧ TreeAt H C o t2 l ys ∧
  (zs.length - (stopAt l zs p - p) + ys.length ≤ 5000 → ∀ r H', Same H H' → Ws H' r (zs.take p ++ (ys ++ zs.drop (stopAt l zs p))) → Q (.ref r) H') ∧
  (5000 < zs.length - (stopAt l zs p - p) + ys.length → ∀ d H', Same H H' → H' d = none → E (.ref CT) (some d) (upd H' d errL))
section
variable {P : Program} {w : World} {K : PySem.W.Frag} {mg : Str → Option Value} {base : Heap} {C fW fT fC fP fE fI fN : Addr} {dW dT dC dP dE dI dN : FuncData} {tk tk2 : Tok} {CT fL : Addr}
theorem scCut : FnScope ["self", "tree", "place", "end"] ["self", "tree", "place"] (defScope mCut) := ⟨rfl, rfl, rfl, by decide +kernel, rfl, by decide +kernel, by decide +kernel⟩
theorem ok_cut {f : Addr} {fd : FuncData} (F : Fun K "cut" "Operators.cut" mCut f fd) (M : Ms K mg C fW fT fC fP fE fI fN dW dT dC dP dE dI dN tk) (gH : mg "HOLE" = some (.str hole tk2)) (T : Free mg) : FnOk P w K mg base CX0 5 f fd ["self", "tree", "place"] (spCut C) := by
  have GP : FnOk P w K mg base CX0 4 fP dP ["self", "tree", "place"] (spChPlace C) := ok_chPlace M T
  have GE : FnOk P w K mg base CX0 1 fE dE ["self", "tree", "place"] (spEnd_ C) := ok_end_ M T
  refine F.ok scCut (fun vs H Q E h => ?_) (fun cdv A outer s H vs Q E hr h => ?_)
  · obtain ⟨o, t, l, zs, p, rfl, _⟩ := h
    rfl
  · obtain ⟨o, t, l, zs, p, rfl, tr, hp, q⟩ := h
    have r1 : Room 1 _ := hr.mono (by decide)
    refine ⟨_, pss_cons (ps_expr (pe_meth (pv 0) M.cf.cls M.mP GP (hr.mono (by decide)) M.bP .nil pass0 (pa_cons (pv 1) (pa_cons (pv 2) pa_nil))))
      (pss_cons (ps_set (i := 3) scCut.nd rfl (.inl rfl) (pe_meth (pv 0) M.cf.cls M.mE GE r1 M.bE .nil pass0 (pa_cons (pv 1) (pa_cons (pv 2) pa_nil))))
      (pss_one (ps_ret (pe_tup (pa_cons (pe_op Tx.op_catY (pe_op Tx.op_catY (pe_slice sl_tupA (pv 1) po_none (po_some (pv 2))) (Tx.pe_tupX (pa_cons (pe_glob (v := .str hole) (by rfl) gH ⟨_, rfl⟩) pa_nil))) (pe_slice sl_tupA (pv 1) (po_some (pv 3)) po_none))
        (pa_cons (pe_slice sl_tupA (pv 1) (po_some (pv 2)) (po_some (pv 3))) pa_nil)))))), ?_⟩
    obtain ⟨dx, tn, ta, tl, ho, hn, ha⟩ := tr.ops.ex
    have few := tr.few
    obtain ⟨le1, le2⟩ := stop_le tr.nd tr.fo hp
    refine ⟨_, rfl, o, dx, _, rfl, ho, rfl, _, rfl, _, rfl, o, t, l, zs, p, rfl, tr, hp, _, rfl, o, dx, _, rfl, ho, rfl, _, rfl, _, rfl, o, t, l, zs, p, rfl, tr, hp, ?_⟩
    refine ⟨_, rfl, _, rfl, _, rfl, slTo tr.tup fun b1 H1 s1 w1 => ?_⟩
    refine ⟨by show 1 ≤ sizeLine; decide, fun b2 H2 n2 s2 w2 => ?_⟩
    refine catWpR (ys := [hole]) (w1.same s2) w2 (by simp) (by rw [List.length_take, sizeLine_eq]; simp; omega) fun b3 H3 s3 w3 => ?_
    have s03 := (s1.trans s2).trans s3
    refine ⟨_, rfl, _, rfl, _, rfl, noPart (slFrom (p := p + ext l (zs.drop p) 1) (tr.same s03).tup fun b4 H4 s4 w4 => ?_)⟩
    have w4 : Ws H4 b4 (zs.drop (stopAt l zs p)) := w4
    refine catWpL (w3.same s4) w4 (by simp) (by rw [List.length_append, List.length_take, List.length_drop, sizeLine_eq]; simp; omega) fun b5 H5 s5 w5 => ?_
    have s05 := (s03.trans s4).trans s5
    refine ⟨_, rfl, _, rfl, _, rfl, _, rfl, _, rfl, slSubR tr.nd tr.fo hp (tr.same s05).tup fun b6 H6 s6 w6 => ?_⟩
    refine ⟨by show 2 ≤ sizeLine; decide, fun b7 n7 => ?_⟩
    have s7 := Same.new (o := .tup [.ref b5, .ref b6]) n7
    refine q b7 _ ((s05.trans s6).trans s7) ⟨b5, b6, .inl upd_same, ?_, w6.same s7⟩
    have w5' := (w5.same s6).same s7
    rw [List.append_assoc] at w5'
    exact w5'
theorem scRepl : FnScope ["self", "tree", "place", "other", "whole"] ["self", "tree", "place", "other"] (defScope mReplaced) := ⟨rfl, rfl, rfl, by decide +kernel, rfl, by decide +kernel, by decide +kernel⟩
theorem ok_repl {f : Addr} {fd : FuncData} (F : Fun K "replaced" "Operators.replaced" mReplaced f fd) (M : Ms K mg C fW fT fC fP fE fI fN dW dT dC dP dE dI dN tk) (L : PySem.TmnyX.TmnyTxt K mg CT fL) (T : Free mg) : FnOk P w K mg base (L2.CX P w) 5 f fd ["self", "tree", "place", "other"] (spRepl C CT) := by
  have GP : FnOk P w K mg base CX0 4 fP dP ["self", "tree", "place"] (spChPlace C) := ok_chPlace M T
  have GC : FnOk P w K mg base CX0 3 fC dC ["self", "tree"] (spChTree C) := ok_chTree M T
  have GE : FnOk P w K mg base CX0 1 fE dE ["self", "tree", "place"] (spEnd_ C) := ok_end_ M T
  refine F.okX scRepl (fun vs H Q E h => ?_) (fun cdv A outer s H vs Q E hr h => ?_)
  · obtain ⟨o, t, t2, l, zs, ys, p, rfl, _⟩ := h
    rfl
  · obtain ⟨o, t, t2, l, zs, ys, p, rfl, tr, hp, tr2, q, qe⟩ := h
    have r1 : Room 1 _ := hr.mono (by decide)
    refine ⟨_, pss_cons (ps_expr (pe_meth (pv 0) M.cf.cls M.mP GP (hr.mono (by decide)) M.bP .nil pass0 (pa_cons (pv 1) (pa_cons (pv 2) pa_nil))))
      (pss_cons (ps_expr (pe_meth (pv 0) M.cf.cls M.mC GC (hr.mono (by decide)) M.bC .nil pass0 (pa_cons (pv 3) pa_nil)))
      (pss_cons (ps_set (i := 4) scRepl.nd rfl (.inl rfl) (pe_op Tx.op_catY (pe_op Tx.op_catY (pe_slice sl_tupA (pv 1) po_none (po_some (pv 2))) (pv 3)) (pe_slice sl_tupA (pv 1) (po_some (pe_meth (pv 0) M.cf.cls M.mE GE r1 M.bE .nil pass0 (pa_cons (pv 1) (pa_cons (pv 2) pa_nil)))) po_none)))
      (pss_cons (ps_if (pt_cmpR op_gt (pe_callB call_len_seq (by rfl) T.len PySem.boot_len (pa_cons (pv 4) pa_nil)) (pe_glob (v := .int 5000) (by rfl) M.gM ⟨_, rfl⟩) (nomark _))
        (pss_one (ps_raiseTmny rfl L hr (takes_of rfl rfl rfl rfl) (by exact (pa_cons (pe_glob (v := .int 5000) (by rfl) M.gM ⟨_, rfl⟩) pa_nil)))) pss_nil)
      (pss_one (ps_ret (pv 4)))))), ?_⟩
    obtain ⟨dx, tn, ta, tl, ho, hn, ha⟩ := tr.ops.ex
    have few := tr.few
    have few2 := tr2.few
    obtain ⟨le1, le2⟩ := stop_le tr.nd tr.fo hp
    refine ⟨_, rfl, o, dx, _, rfl, ho, rfl, _, rfl, _, rfl, o, t, l, zs, p, rfl, tr, hp, ?_⟩
    refine ⟨_, rfl, o, dx, _, rfl, ho, rfl, _, rfl, o, t2, l, ys, rfl, tr2, ?_⟩
    refine ⟨_, rfl, _, rfl, _, rfl, slTo tr.tup fun b1 H1 s1 w1 => ?_⟩
    refine ⟨_, rfl, catWs w1 (tr2.same s1).tup (by rw [List.length_take, sizeLine_eq]; omega) fun b2 H2 s2 w2 => ?_⟩
    have s02 := s1.trans s2
    refine ⟨_, rfl, _, rfl, o, dx, _, rfl, s02 _ _ ho, rfl, _, rfl, _, rfl, o, t, l, zs, p, rfl, tr.same s02, hp, _, rfl, ?_⟩
    refine noPart (slFrom (p := p + ext l (zs.drop p) 1) (tr.same s02).tup fun b3 H3 s3 w3 => ?_)
    have w3 : Ws H3 b3 (zs.drop (stopAt l zs p)) := w3
    refine catWs (w2.same s3) w3 (by rw [List.length_append, List.length_take, List.length_drop, sizeLine_eq]; omega) fun b4 H4 s4 w4 => ?_
    rw [List.append_assoc] at w4
    have s04 := (s02.trans s3).trans s4
    have len : ((zs.take p ++ (ys ++ zs.drop (stopAt l zs p))).map V.str).length = zs.length - (stopAt l zs p - p) + ys.length := by
      rw [List.length_map, List.length_append, List.length_append, List.length_take, List.length_drop]
      omega
    refine ⟨_, rfl, b4, _, rfl, .inr (.inl w4), _, _, rfl, rfl, _, rfl, ?_⟩
    rw [len]
    refine ite2 (fun c => ?_) (fun c => ?_)
    · have c := of_decide_eq_true c
      exact ⟨_, rfl, fun d hd => qe (by omega) d H4 s04 hd⟩
    · have c := of_decide_eq_false (Bool.eq_false_iff.mpr c)
      exact ⟨_, rfl, q (by omega) b4 H4 s04 w4⟩
end
end Pr
namespace Pr
open PySem PySem.Spec PyProof.Rows L2 Gd
/-! ### _check_filling -/
/-- a context, what stands ahead of its hole and behind it -/
abbrev Cw := List Str × List Str
structure CtxR (H : Hp) (l : List (Str × Nat)) (p : Addr × Cw) : Prop where
  wp : Wp H p.1 (cxt p.2.1 p.2.2)
  is : IsC l p.2.1 p.2.2
  few : (cxt p.2.1 p.2.2).length ≤ 5000
theorem CtxR.same {H H' : Hp} {l : List (Str × Nat)} {p : Addr × Cw} (h : CtxR H l p) (s : Same H H') : CtxR H' l p := ⟨h.wp.same s, h.is, h.few⟩
/-- a tree or a context -/
structure LastR (H : Hp) (l : List (Str × Nat)) (u : Addr) (v : List Str) : Prop where
  ws : Ws H u v
  few : v.length ≤ 5000
  alt : Fo l 1 v ∨ ∃ a b, v = cxt a b ∧ CtxR H l (u, (a, b))
theorem LastR.same {H H' : Hp} {l : List (Str × Nat)} {u : Addr} {v : List Str} (h : LastR H l u v) (s : Same H H') : LastR H' l u v := ⟨h.ws.same s, h.few, h.alt.imp id fun ⟨a, b, e, c⟩ => ⟨a, b, e, c.same s⟩⟩
def refV (a : Addr) : V := .ref a
def lastL (z : Option (Addr × List Str)) : List V := match z with
  | none => []
  | some u => [.ref u.1]
/-- what the parameters of filled are -/
structure FillAt (H : Hp) (C o c rp : Addr) (l : List (Str × Nat)) (k : Cw) (mid : List (Addr × Cw)) (z : Option (Addr × List Str)) : Prop where
  ops : OpsAt H C o l
  no : hole ∉ l.map (·.1)
  nd : (l.map (·.1)).Nodup
  eight : l.length ≤ 8
  first : CtxR H l (c, k)
  mids : ∀ p ∈ mid, CtxR H l p
  rest : Rd H rp (.tup ((mid.map fun p => refV p.1) ++ lastL z))
  none_ : z = none → mid = []
  last : ∀ u, z = some u → LastR H l u.1 u.2
  small : mid.length ≤ 1000
theorem FillAt.same {H H' : Hp} {C o c rp : Addr} {l : List (Str × Nat)} {k : Cw} {mid : List (Addr × Cw)} {z : Option (Addr × List Str)} (h : FillAt H C o c rp l k mid z) (s : Same H H') : FillAt H' C o c rp l k mid z :=
  ⟨h.ops.same s, h.no, h.nd, h.eight, h.first.same s, fun p m => (h.mids p m).same s, Rd.same h.rest s, h.none_, fun u e => (h.last u e).same s, h.small⟩
theorem ctxB_is {l : List (Str × Nat)} (nd : (l.map (·.1)).Nodup) (no : hole ∉ l.map (·.1)) {a b : List Str} (c : IsC l a b) (few : (cxt a b).length ≤ 5000) : ctxB l (cxt a b) = true := by
  unfold ctxB
  have e := fo_wgo (n := 1) (lH_nd nd no) c.fo
  have e : wgo (lH l) 1 ((cxt a b).map V.str) = true := e
  rw [decide_eq_true few, decide_eq_true (count_ctx c.na c.nb), e]
  rfl
theorem treeB_is {l : List (Str × Nat)} (nd : (l.map (·.1)).Nodup) {zs : List Str} (f : Fo l 1 zs) (few : zs.length ≤ 5000) : treeB l zs = true := by
  unfold treeB
  have e := fo_wgo (n := 1) nd f
  have e : wgo l 1 (zs.map V.str) = true := e
  rw [decide_eq_true few, e]
  rfl
theorem treeB_ctx {l : List (Str × Nat)} (no : hole ∉ l.map (·.1)) {a b : List Str} : treeB l (cxt a b) = false := by
  unfold treeB
  rw [wgo_ctx no, Bool.and_false]
theorem cut_last {xs : List V} : cutV xs none (some (-1)) = xs.dropLast := by
  have i1 : HT.sIx xs.length 0 none = 0 := rfl
  unfold cutV
  rw [i1, List.drop_zero, Nat.sub_zero, List.dropLast_eq_take]
  congr 1
  show (if (-1 : Int) < 0 then ((-1 : Int) + (xs.length : Int)).toNat else min (-1 : Int).toNat xs.length) = _
  rw [if_pos (by decide)]
  omega
theorem catRd {K : PySem.W.Frag} {H : Hp} {a b : Addr} {xs ys : List V} {Q : VK} (ha : Rd H a (.tup xs)) (hb : Rd H b (.tup ys)) (few : xs.length + ys.length ≤ sizeLine)
    (q : ∀ p H2, Same H H2 → Rd H2 p (.tup (xs ++ ys)) → Q (.ref p) H2) : Tx.rCatY K (.ref a) (.ref b) H Q := by
  refine ⟨a, b, _, _, rfl, rfl, .inl ha, .inl hb, few, fun e => ?_, fun _ e => ?_, fun p H2 _ s tx => q p H2 s (TXr tx)⟩
  · subst e
    exact q b H (Same.refl H) hb
  · subst e
    exact q a H (Same.refl H) (by rw [List.append_nil]; exact ha)
theorem rest_dl {mid : List (Addr × Cw)} {z : Option (Addr × List Str)} (h : z = none → mid = []) : ((mid.map fun p => refV p.1) ++ lastL z).dropLast = mid.map fun p => refV p.1 := by
  cases z with
  | none =>
    rw [h rfl]
    rfl
  | some u => exact List.dropLast_concat
theorem rest_last {mid : List (Addr × Cw)} {u : Addr × List Str} : atI ((mid.map fun p => refV p.1) ++ lastL (some u)) (-1) = some (.ref u.1) := atI_last
def spChFill (C : Addr) : Sp := fun vs H Q _ => ∃ (o c rp : Addr) (l : List (Str × Nat)) (k : Cw) (mid : List (Addr × Cw)) (z : Option (Addr × List Str)), vs = [.ref o, .ref c, .ref rp] ∧ FillAt H C o c rp l k mid z ∧ ∀ H', Same H H' → Q .non H'
section
variable {P : Program} {w : World} {K : PySem.W.Frag} {mg : Str → Option Value} {base : Heap} {C fW fT fC fP fE fI fN : Addr} {dW dT dC dP dE dI dN : FuncData} {tk tk2 : Tok} {fX : Addr} {dX : FuncData}
theorem scChFill : FnScope ["self", "context", "rest", "contexts", "part"] ["self", "context", "rest"] (defScope mChFill) := ⟨rfl, rfl, rfl, by decide +kernel, rfl, by decide +kernel, by decide +kernel⟩
theorem ok_chFill {f : Addr} {fd : FuncData} (F : Fun K "_check_filling" "Operators._check_filling" mChFill f fd) (M : Ms K mg C fW fT fC fP fE fI fN dW dT dC dP dE dI dN tk) (X5 : MtF K C "is_context" "Operators.is_context" mIsCtx fX dX ["self", "value"]) (gH : mg "HOLE" = some (.str hole tk2)) (T : Free mg) : FnOk P w K mg base CX0 3 f fd ["self", "context", "rest"] (spChFill C) := by
  have GB : FnOk P w K mg base CX0 2 fT dT ["self", "value"] (spTreeB C) := ok_treeB M T
  have GX : FnOk P w K mg base CX0 2 fX dX ["self", "value"] (spCtxB C) := ok_isCtx X5.F M gH T
  refine F.ok scChFill (fun vs H Q E h => ?_) (fun cdv A outer s H vs Q E hr h => ?_)
  · obtain ⟨o, c, rp, l, k, mid, z, rfl, _⟩ := h
    rfl
  · obtain ⟨o, c, rp, l, k, mid, z, rfl, fa, q⟩ := h
    refine ⟨_, pss_cons (ps_set (i := 3) scChFill.nd rfl (.inl rfl) (pe_op Tx.op_catY (Tx.pe_tupX (pa_cons (pv 1) pa_nil)) (pe_slice sl_tupA (pv 2) po_none (po_some (pe_un un_neg pe_int)))))
      (pss_cons (ps_if (pt_not (pt_val (pe_callB (cr_all rfl) (by rfl) T.all (by decide +kernel) (pa_cons (pe_lc (own := [("part", 4)]) (g := gName 4) (by rfl) scChFill.nd (pi_tup (pv 3)) (blkOk_by (own := [("part", 4)]) (N := ["self", "context", "rest", "contexts", "part"]) (sc := defScope mChFill) (by decide +kernel)) (fun _ _ _ _ _ => pg_name (i := 4) scChFill.nd rfl (Or.inl rfl)) (fun _ _ _ _ _ => pts_nil)
          (fun _ _ _ _ _ => pe_meth (pv 0) M.cf.cls X5.m GX hr X5.b .nil pass0 (pa_cons (pv 4) pa_nil))) pa_nil)))) (pss_one ps_never) pss_nil)
      (pss_one (ps_if (PW.pt (pw_and (pt_truth (pv 2) (fun _ => rfl)) (pw_and (pt_not (pt_val (pe_meth (pv 0) M.cf.cls M.mT GB hr M.bT .nil pass0 (pa_cons (pe_ix ix_tup (pv 2) (pe_un un_neg pe_int) (fun _ _ => rfl)) pa_nil))))
          (pw_and1 (pt_not (pt_val (pe_meth (pv 0) M.cf.cls X5.m GX hr X5.b .nil pass0 (pa_cons (pe_ix ix_tup (pv 2) (pe_un un_neg pe_int) (fun _ _ => rfl)) pa_nil)))))))) (pss_one ps_never) pss_nil))), ?_⟩
    obtain ⟨dx, tn, ta, tl, ho, hn, ha⟩ := fa.ops.ex
    refine ⟨_, rfl, by show 1 ≤ sizeLine; decide, fun b1 H1 n1 s1 w1 => ?_⟩
    refine ⟨_, rfl, _, rfl, _, rfl, slRd (Rd.same fa.rest s1) fun b2 H2 s2 w2 => ?_⟩
    rw [cut_last, rest_dl fa.none_] at w2
    have sm := fa.small
    refine catRd (TXr (w1.same s2)) w2 (by rw [List.length_map, sizeLine_eq]; show 1 + mid.length ≤ _; omega) fun b3 H3 s3 w3 => ?_
    have s03 := (s1.trans s2).trans s3
    have w3 : Rd H3 b3 (.tup (((c, k) :: mid).map fun p => refV p.1)) := w3
    have all3 : ∀ p ∈ (c, k) :: mid, CtxR H3 l p := fun p m => by
      rcases List.mem_cons.mp m with rfl | m
      · exact fa.first.same s03
      · exact (fa.mids p m).same s03
    have few3 : ((c, k) :: mid).length ≤ 1001 := by
      rw [List.length_cons]
      omega
    generalize (c, k) :: mid = ks at w3 all3 few3
    have fa3 := fa.same s03
    refine ⟨_, rfl, b3, rfl, ⟨_, .inl w3⟩, fun D nD => ?_⟩
    have s4 : Same H3 (upd H3 D (.lst [])) := Same.new nD
    refine lc_tup (K := K) (a := b3) (xs := ks.map fun p => refV p.1) (fun i G => G D = some (.lst (List.replicate i (V.bl true))) ∧ Same H3 G) ⟨upd_same, s4⟩ (fun i G _ ⟨_, s⟩ => .inl (Rd.same w3 s)) ?_ ?_
    · rintro i x G hx ⟨eD, sG⟩
      rw [List.getElem?_map, Option.map_eq_some_iff] at hx
      obtain ⟨p, hp, rfl⟩ := hx
      have hi := (List.getElem?_eq_some_iff.mp hp).1
      have cp := (all3 p (List.mem_of_getElem? hp)).same sG
      refine ⟨rfl, _, rfl, o, dx, _, rfl, sG _ _ (s03 _ _ ho), rfl, _, rfl, o, p.1, l, _, rfl, (fa3.same sG).ops, fa.no, fa.eight, cp.wp, fun H5 s5 => ?_⟩
      rw [ctxB_is fa.nd fa.no cp.is cp.few]
      refine ⟨_, s5 _ _ eD, ?_, ?_, ?_⟩
      · rw [List.length_replicate, sizeLine_eq]
        omega
      · rw [upd_same, List.replicate_succ']
      · exact fun b u e => by
          have nH : H3 D = none := nD
          rw [upd_ne (ne_of_none e nH)]
          exact s5 _ _ (sG b u e)
    · rintro G ⟨eD, sG⟩
      rw [List.length_map] at eD
      refine ⟨D, List.replicate ks.length true, rfl, SqL.of ?_, ?_⟩
      · rw [eD, List.map_replicate]
      have e : (List.replicate ks.length true).all id = true := by simp
      rw [e]
      refine ⟨_, rfl, if_false_of rfl ?_⟩
      have s0 := s03.trans sG
      have f2 := fa.same s0
      have tr : TruV K (.ref rp) G (!((mid.map fun p => refV p.1) ++ lastL z).isEmpty) := .inr (.inl ⟨_, .inl f2.rest, rfl⟩)
      refine ⟨_, rfl, _, tr, ?_⟩
      cases z with
      | none =>
        have e0 := fa.none_ rfl
        rw [e0]
        refine if_false_of rfl ?_
        exact q G s0
      | some u =>
        have ne : (!((mid.map fun p => refV p.1) ++ lastL (some u)).isEmpty) = true := by
          cases mid <;> rfl
        rw [ne]
        refine if_true_of rfl ?_
        have la := f2.last u rfl
        refine ⟨_, rfl, o, dx, _, rfl, s0 _ _ ho, rfl, _, rfl, _, rfl, rp, _, _, _, rfl, rfl, .inl f2.rest, rest_last, o, u.1, l, u.2, rfl, f2.ops, la.ws, _, rfl, ?_⟩
        rcases la.alt with f | ⟨a, b, ev, cr⟩
        · rw [treeB_is fa.nd f la.few]
          exact if_false_of rfl (q G s0)
        · rw [ev, treeB_ctx fa.no]
          refine if_true_of rfl ?_
          refine ⟨_, rfl, o, dx, _, rfl, s0 _ _ ho, rfl, _, rfl, _, rfl, rp, _, _, _, rfl, rfl, .inl f2.rest, rest_last, o, u.1, l, _, rfl, f2.ops, fa.no, fa.eight, cr.wp, fun H5 s5 => ?_⟩
          rw [ctxB_is fa.nd fa.no cr.is cr.few]
          exact ⟨_, rfl, if_false_of rfl (q H5 (s0.trans s5))⟩
end
end Pr
namespace Pr
open PySem PySem.Spec PyProof.Rows L2 Gd
/-! ### filled -/
def rLenK (K : PySem.W.Frag) : List V → Hp → VK → Prop := fun xs H Q => ∃ p ys, xs = [V.ref p] ∧ (SqL K H p ys ∨ SqT K H p ys) ∧ Q (.int (ys.length : Nat)) H
theorem call_len_seqK {X : Cx} {K : PySem.W.Frag} (h : X.K = K) : CallR X (.builtin "len") (rLenK K) := by
  subst h
  exact call_len_seq
def fillA (ks : List Cw) : List Str := ks.flatMap (·.1)
def revB (ks : List Cw) : List Str := ks.flatMap fun c => c.2.reverse
/-- contexts one in the other, v in the last one -/
def fill (ks : List Cw) (v : List Str) : List Str := fillA ks ++ (v ++ (revB ks).reverse)
theorem cxt_take {a b : List Str} : (cxt a b).take a.length = a := by simp [cxt]
theorem cxt_drop {a b : List Str} : (cxt a b).drop (a.length + 1) = b := by simp [cxt]
theorem cxt_hole {a b : List Str} : (cxt a b)[a.length]? = some hole := by simp [cxt]
theorem cxt_before {a b : List Str} (na : hole ∉ a) : ∀ m, m < a.length → (cxt a b)[m]? ≠ some hole := fun m h e => by
  unfold cxt at e
  rw [List.getElem?_append_left h] at e
  exact na (List.mem_of_getElem? e)
theorem fillA_snoc {ks : List Cw} {c : Cw} : fillA (ks ++ [c]) = fillA ks ++ c.1 := by simp [fillA]
theorem revB_snoc {ks : List Cw} {c : Cw} : revB (ks ++ [c]) = revB ks ++ c.2.reverse := by simp [revB]
theorem fill_nil {v : List Str} : fill [] v = v := by simp [fill, fillA, revB]
theorem fill_cons {c : Cw} {ks : List Cw} {v : List Str} : fill (c :: ks) v = c.1 ++ (fill ks v ++ c.2) := by simp [fill, fillA, revB]
/-- what filled makes -/
def resF (k : Cw) (mid : List (Addr × Cw)) : Option (Addr × List Str) → List Str
  | none => cxt k.1 k.2
  | some u => fill (k :: mid.map (·.2)) u.2
/-- what stands behind the first parameter -/
def restW (mid : List (Addr × Cw)) : Option (Addr × List Str) → List (Addr × List Str)
  | none => []
  | some u => mid.map (fun p => (p.1, cxt p.2.1 p.2.2)) ++ [u]
theorem restW_refs {mid : List (Addr × Cw)} {z : Option (Addr × List Str)} (h : z = none → mid = []) : (mid.map fun p => refV p.1) ++ lastL z = (restW mid z).map fun p => refV p.1 := by
  cases z with
  | none =>
    rw [h rfl]
    rfl
  | some u =>
    show _ = (mid.map (fun p => (p.1, cxt p.2.1 p.2.2)) ++ [u]).map fun p => refV p.1
    rw [List.map_append, List.map_map]
    rfl
/-- the contexts whose holes are filled -/
def ksF (c : Addr) (k : Cw) (mid : List (Addr × Cw)) : Option (Addr × List Str) → List (Addr × Cw)
  | none => []
  | some _ => (c, k) :: mid
def lastW (c : Addr) (k : Cw) : Option (Addr × List Str) → Addr × List Str
  | none => (c, cxt k.1 k.2)
  | some u => u
theorem ksF_len {c : Addr} {k : Cw} {mid : List (Addr × Cw)} {z : Option (Addr × List Str)} : (restW mid z).length = (ksF c k mid z).length := by
  cases z with
  | none => rfl
  | some u => simp [restW, ksF]
theorem ks_get {c : Addr} {k : Cw} {mid : List (Addr × Cw)} {z : Option (Addr × List Str)} {i : Nat} (h : i < (ksF c k mid z).length) :
    ((c, cxt k.1 k.2) :: restW mid z)[i]? = some (((ksF c k mid z)[i]).1, cxt ((ksF c k mid z)[i]).2.1 ((ksF c k mid z)[i]).2.2) := by
  cases z with
  | none => exact absurd h (Nat.not_lt_zero _)
  | some u =>
    have h' : i < mid.length + 1 := h
    cases i with
    | zero => rfl
    | succ i =>
      have hi : i < mid.length := by omega
      show (mid.map (fun p => (p.1, cxt p.2.1 p.2.2)) ++ [u])[i]? = some ((mid[i]).1, cxt (mid[i]).2.1 (mid[i]).2.2)
      rw [List.getElem?_append_left (by rw [List.length_map]; exact hi), List.getElem?_map, List.getElem?_eq_getElem hi]
      rfl
theorem ks_last {c : Addr} {k : Cw} {mid : List (Addr × Cw)} {z : Option (Addr × List Str)} : ((c, cxt k.1 k.2) :: restW mid z)[(ksF c k mid z).length]? = some (lastW c k z) := by
  cases z with
  | none => rfl
  | some u =>
    show (mid.map (fun p => (p.1, cxt p.2.1 p.2.2)) ++ [u])[mid.length]? = some u
    rw [List.getElem?_append_right (by rw [List.length_map]; exact Nat.le_refl _), List.length_map, Nat.sub_self]
    rfl
theorem resF_eq {c : Addr} {k : Cw} {mid : List (Addr × Cw)} {z : Option (Addr × List Str)} : resF k mid z = fill ((ksF c k mid z).map (·.2)) (lastW c k z).2 := by
  cases z with
  | none => exact fill_nil.symm
  | some u => rfl
theorem fill_len {ks : List Cw} {v : List Str} : (fill ks v).length = (ks.map fun c => c.1.length + c.2.length).sum + v.length := by
  induction ks with
  | nil => rw [fill_nil]; simp
  | cons c ks ih =>
    rw [fill_cons, List.length_append, List.length_append, ih, List.map_cons, List.sum_cons]
    omega
theorem sum_rest {k : Cw} {mid : List (Addr × Cw)} {z : Option (Addr × List Str)} (h : z = none → mid = []) : ((restW mid z).map fun p => (p.2.length : Int) - 1).sum + ((cxt k.1 k.2).length : Int) = ((resF k mid z).length : Int) := by
  have lc : ∀ c : Cw, (cxt c.1 c.2).length = c.1.length + c.2.length + 1 := fun c => by
    unfold cxt
    rw [List.length_append, List.length_cons]
    omega
  cases z with
  | none =>
    show (0 : Int) + _ = _
    rw [Int.zero_add]
    rfl
  | some u =>
    show ((mid.map (fun p => (p.1, cxt p.2.1 p.2.2)) ++ [u]).map fun p => (p.2.length : Int) - 1).sum + _ = ((fill (k :: mid.map (·.2)) u.2).length : Int)
    rw [fill_len, lc]
    simp only [List.map_append, List.sum_append, List.map_map, List.map_cons, List.map_nil, List.sum_cons, List.sum_nil]
    have e : (mid.map ((fun p : Addr × List Str => (p.2.length : Int) - 1) ∘ fun p : Addr × Cw => (p.1, cxt p.2.1 p.2.2))).sum = (((mid.map ((fun c : Cw => c.1.length + c.2.length) ∘ fun p : Addr × Cw => p.2)).sum : Nat) : Int) := by
      clear h
      induction mid with
      | nil => rfl
      | cons p mid ih =>
        rw [List.map_cons, List.sum_cons, ih, List.map_cons, List.sum_cons]
        show ((cxt p.2.1 p.2.2).length : Int) - 1 + _ = _
        rw [lc]
        show _ = ((p.2.1.length + p.2.2.length + _ : Nat) : Int)
        omega
    rw [e]
    omega
/-- a + b, and whether it is plain -/
theorem catB {K : PySem.W.Frag} {H : Hp} {a b : Addr} {xs ys : List Str} {Q : VK} (ha : Wp H a xs) (hb : Ws H b ys) (few : xs.length + ys.length ≤ sizeLine)
    (q : ∀ p H2, Same H H2 → Ws H2 p (xs ++ ys) → (Wp H b ys → Wp H2 p (xs ++ ys)) → Q (.ref p) H2) : Tx.rCatY K (.ref a) (.ref b) H Q := by
  refine ⟨a, b, _, _, rfl, rfl, .inl ha.ws, .inl hb, by rw [List.length_map, List.length_map]; exact few, fun e => ?_, fun _ e => ?_, fun p H2 _ s tx => ?_⟩
  · have e := map_nil e
    subst e
    exact q b H (Same.refl H) hb id
  · have e := map_nil e
    subst e
    rw [List.append_nil] at q
    exact q a H (Same.refl H) ha.ws fun _ => ha
  · rw [← List.map_append] at tx
    exact q p H2 s (TXr tx) fun _ => tx
theorem catB2 {K : PySem.W.Frag} {H : Hp} {a b : Addr} {xs ys : List Str} {Q : VK} (ha : Ws H a xs) (hb : Wp H b ys) (few : xs.length + ys.length ≤ sizeLine)
    (q : ∀ p H2, Same H H2 → Ws H2 p (xs ++ ys) → (Wp H a xs → Wp H2 p (xs ++ ys)) → Q (.ref p) H2) : Tx.rCatY K (.ref a) (.ref b) H Q := by
  refine ⟨a, b, _, _, rfl, rfl, .inl ha, .inl hb.ws, by rw [List.length_map, List.length_map]; exact few, fun e => ?_, fun _ e => ?_, fun p H2 _ s tx => ?_⟩
  · have e := map_nil e
    subst e
    exact q b H (Same.refl H) hb.ws fun _ => hb
  · have e := map_nil e
    subst e
    rw [List.append_nil] at q
    exact q a H (Same.refl H) ha id
  · rw [← List.map_append] at tx
    exact q p H2 s (TXr tx) fun _ => tx
def spFillB (C CT : Addr) : Sp := fun vs H Q E => ∃ (o c rp : Addr) (l : List (Str × Nat)) (k : Cw) (mid : List (Addr × Cw)) (z : Option (Addr × List Str)), vs = [.ref o, .ref c, .ref rp] ∧ FillAt H C o c rp l k mid z ∧
  ((resF k mid z).length ≤ 5000 → ∀ r H', Same H H' → Ws H' r (resF k mid z) → ((∀ u, z = some u → Wp H u.1 u.2) → Wp H' r (resF k mid z)) → Q (.ref r) H') ∧
  (5000 < (resF k mid z).length → ∀ d H', Same H H' → H' d = none → E (.ref CT) (some d) (upd H' d errL))
section
variable {P : Program} {w : World} {K : PySem.W.Frag} {mg : Str → Option Value} {base : Heap} {C fW fT fC fP fE fI fN : Addr} {dW dT dC dP dE dI dN : FuncData} {tk tk2 : Tok} {CT fL fX fY : Addr} {dX dY : FuncData}
theorem scFill : FnScope ["self", "context", "rest", "ahead", "behind", "inner", "part", "hole"] ["self", "context", "rest"] (defScope mFilled) := ⟨rfl, rfl, rfl, by decide +kernel, rfl, by decide +kernel, by decide +kernel⟩
theorem ok_fill {f : Addr} {fd : FuncData} (F : Fun K "filled" "Operators.filled" mFilled f fd) (M : Ms K mg C fW fT fC fP fE fI fN dW dT dC dP dE dI dN tk) (X5 : MtF K C "is_context" "Operators.is_context" mIsCtx fX dX ["self", "value"])
    (Y5 : MtF K C "_check_filling" "Operators._check_filling" mChFill fY dY ["self", "context", "rest"]) (gH : mg "HOLE" = some (.str hole tk2)) (L : PySem.TmnyX.TmnyTxt K mg CT fL) (T : Free mg) :
    FnR P w K mg base (L2.CX P w) 4 f (fun vs H Q E => ∃ ws rest, vs = ws ++ rest ∧ ws.length = 2 ∧ rest.length ≤ sizeLine ∧ ∀ p, H p = Option.none → spFillB C CT (ws ++ [V.ref p]) (upd H p (.tup rest)) Q E) := by
  have GY : FnOk P w K mg base CX0 3 fY dY ["self", "context", "rest"] (spChFill C) := ok_chFill Y5.F M X5 gH T
  obtain ⟨oc, od, kV, doc, pm, an, cdv, ct, osl, rfl, lk, hcd⟩ := F.ex
  refine StX.fn_star (ps := ["self", "context"]) (pv := "rest") lk hcd scFill StX.cxUp (fun us rest hl => match us, rest, hl with | [_, _], [], _ => rfl | [_, _], _ :: _, _ => rfl) (fun A outer s H vs Q E hr h => ?_)
  obtain ⟨o, c, rp, l, k, mid, z, rfl, fa, q, qe⟩ := h
  refine ⟨_, pss_cons (ps_expr (pe_meth (pv 0) M.cf.cls Y5.m GY hr Y5.b .nil pass0 (pa_cons (pv 1) (pa_cons (pv 2) pa_nil))))
    (pss_cons (ps_if (pt_cmpR op_gt (pe_op op_add (pe_callB (cr_sum rfl) (by rfl) T.sum (by decide +kernel) (pa_cons (pe_lc (own := [("part", 6)]) (g := gName 6) (by rfl) scFill.nd (pi_tup (pv 2)) (blkOk_by (own := [("part", 6)]) (N := ["self", "context", "rest", "ahead", "behind", "inner", "part", "hole"]) (sc := defScope mFilled) (by decide +kernel)) (fun _ _ _ _ _ => pg_name (i := 6) scFill.nd rfl (Or.inl rfl)) (fun _ _ _ _ _ => pts_nil)
          (fun _ _ _ _ _ => pe_op op_sub (pe_callB (call_len_seqK (K := K) rfl) (by rfl) T.len PySem.boot_len (pa_cons (pv 6) pa_nil)) pe_int)) pa_nil)) (pe_callB call_len_seq (by rfl) T.len PySem.boot_len (pa_cons (pv 1) pa_nil))) (pe_glob (v := .int 5000) (by rfl) M.gM ⟨_, rfl⟩) (nomark _))
        (pss_one (ps_raiseTmny rfl L hr (takes_of rfl rfl rfl rfl) (by exact (pa_cons (pe_glob (v := .int 5000) (by rfl) M.gM ⟨_, rfl⟩) pa_nil)))) pss_nil)
    (pss_cons (ps_set (i := 3) scFill.nd rfl (.inl rfl) (pe_lst pa_nil))
    (pss_cons (ps_set (i := 4) scFill.nd rfl (.inl rfl) (pe_lst pa_nil))
    (pss_cons (ps_set (i := 5) scFill.nd rfl (.inl rfl) (pv 1))
    (PSs.nox (pss_cons (ps_for PassesOwn.never rfl (pi_tup (pv 2)) (pg_name (i := 6) scFill.nd rfl (.inl rfl))
      (pss_cons (ps_set (i := 7) scFill.nd rfl (.inl rfl) (Tx.pe_tm PySem.F.slot_tuple_index PySem.F.type_tuple_index mt_tup_index (pv 5) (pa_cons (pe_glob (v := .str hole) (by rfl) gH ⟨_, rfl⟩) pa_nil)))
      (pss_cons (ps_expr (pe_bm PySem.F.plainAttrs_list PySem.F.slot_list_extend PySem.F.type_list_extend Tb.mt_extT (pv 3) (pa_cons (pe_slice sl_tupA (pv 5) po_none (po_some (pv 7))) pa_nil)))
      (pss_cons (ps_expr (pe_bm PySem.F.plainAttrs_list PySem.F.slot_list_extend PySem.F.type_list_extend Tb.mt_extT (pv 4) (pa_cons (Tb.pe_revUp (pv 5) (pv 7)) pa_nil)))
      (pss_one (ps_set (i := 5) scFill.nd rfl (.inl rfl) (pv 6)))))))
    (pss_one (ps_ret (pe_op Tx.op_catY (pe_op Tx.op_catY (pe_callTy Tx.call_tupX (by rfl) T.tuple (by decide +kernel) (pa_cons (pv 3) pa_nil)) (pv 5)) (pe_callTy Tx.call_tupX (by rfl) T.tuple (by decide +kernel) (pa_cons (pe_revL (pv 4)) pa_nil))))))))))), ?_⟩
  obtain ⟨dx, tn, ta, tl, ho, hn, ha⟩ := fa.ops.ex
  refine ⟨_, rfl, o, dx, _, rfl, ho, rfl, _, rfl, _, rfl, o, c, rp, l, k, mid, z, rfl, fa, fun H1 s1 => ?_⟩
  have fa1 := fa.same s1
  have rest1 := fa1.rest
  rw [restW_refs fa.none_] at rest1
  have wsR : ∀ p ∈ restW mid z, Ws H1 p.1 p.2 := fun p m => by
    cases z with
    | none => cases m
    | some u =>
      rcases List.mem_append.mp m with m | m
      · obtain ⟨r, hr, rfl⟩ := List.mem_map.mp m
        exact (fa1.mids r hr).wp.ws
      · rw [List.mem_singleton.mp m]
        exact (fa1.last u rfl).ws
  have nR : (restW mid z).length ≤ 1001 := by
    have := fa.small
    cases z with
    | none => exact Nat.zero_le _
    | some u =>
      show (mid.map (fun p => (p.1, cxt p.2.1 p.2.2)) ++ [u]).length ≤ 1001
      rw [List.length_append, List.length_map]
      show mid.length + 1 ≤ 1001
      omega
  -- how many places
  refine ⟨_, rfl, rp, rfl, ⟨_, .inl rest1⟩, fun D nD => ?_⟩
  refine lc_tup (K := K) (a := rp) (xs := (restW mid z).map fun p => refV p.1) (fun i G => G D = some (.lst (((restW mid z).take i).map fun p => V.int ((p.2.length : Int) - 1))) ∧ Same H1 G) ⟨upd_same, Same.new nD⟩ (fun i G _ ⟨_, s⟩ => .inl (Rd.same rest1 s)) ?_ ?_
  · rintro i x G hx ⟨eD, sG⟩
    rw [List.getElem?_map, Option.map_eq_some_iff] at hx
    obtain ⟨p, hp, rfl⟩ := hx
    have hi := (List.getElem?_eq_some_iff.mp hp).1
    refine ⟨rfl, _, rfl, p.1, _, rfl, .inr (.inl ((wsR p (List.mem_of_getElem? hp)).same sG)), _, _, rfl, rfl, ?_⟩
    refine ⟨_, eD, ?_, ?_, ?_⟩
    · rw [List.length_map, List.length_take, sizeLine_eq]
      omega
    · rw [upd_same, List.take_add_one, hp, List.map_append, List.length_map]
      rfl
    · exact fun b u e => by
        rw [upd_ne (ne_of_none e nD)]
        exact sG b u e
  rintro G ⟨eD, sG⟩
  rw [List.length_map, List.take_of_length_le (Nat.le_refl _)] at eD
  refine ⟨D, (restW mid z).map fun p => (p.2.length : Int) - 1, rfl, SqL.of (by rw [eD, List.map_map]; rfl), ?_⟩
  refine ⟨_, rfl, c, _, rfl, .inr (.inl (fa1.first.same sG).wp.ws), _, _, rfl, rfl, ?_⟩
  have s2 := s1.trans sG
  have tot := sum_rest (k := k) fa.none_
  refine ⟨_, _, rfl, rfl, _, rfl, ?_⟩
  rw [List.length_map, tot]
  refine ite2 (fun cc => ?_) (fun cc => ?_)
  · have cc := of_decide_eq_true cc
    exact ⟨_, rfl, fun d hd => qe (by omega) d G s2 hd⟩
  have small := of_decide_eq_false (Bool.eq_false_iff.mpr cc)
  have small : (resF k mid z).length ≤ 5000 := by omega
  refine ⟨by show 0 ≤ sizeLine; decide, fun A nA => ?_⟩
  refine ⟨by show 0 ≤ sizeLine; decide, fun B nB => ?_⟩
  have AB : A ≠ B := ne_of_none upd_same nB
  have nGA : G A = none := nA
  have nGB : G B = none := (Same.new nA).free nB
  have fa2 := fa.same s2
  have rest2 := Rd.same rest1 sG
  generalize eks : ksF c k mid z = ks
  have gt : ∀ (i : Nat) (h : i < ks.length), ((c, cxt k.1 k.2) :: restW mid z)[i]? = some ((ks[i]).1, cxt (ks[i]).2.1 (ks[i]).2.2) := fun i h => by
    subst eks
    exact ks_get h
  have lst : ((c, cxt k.1 k.2) :: restW mid z)[ks.length]? = some (lastW c k z) := by
    subst eks
    exact ks_last
  have nks : (restW mid z).length = ks.length := by
    subst eks
    exact ksF_len
  have cks : ∀ p ∈ ks, CtxR G l p := fun p m => by
    subst eks
    cases z with
    | none => cases m
    | some u =>
      rcases List.mem_cons.mp m with rfl | m
      · exact fa2.first
      · exact fa2.mids p m
  have er : resF k mid z = fill (ks.map (·.2)) (lastW c k z).2 := by
    subst eks
    exact resF_eq
  refine ⟨_, rfl, _, rfl, rp, rfl, ⟨_, .inl (Rd.same rest2 ((Same.new nA).trans (Same.new nB)))⟩, ?_⟩
  refine for_tup (K := K) (a := rp) (xs := (restW mid z).map fun p => refV p.1) (fun i σ H' => ∃ (p : Addr × List Str) (v6 v7 : Option V), ((c, cxt k.1 k.2) :: restW mid z)[i]? = some p ∧ σ = [some (.ref o), some (.ref c), some (.ref rp), some (.ref A), some (.ref B), some (.ref p.1), v6, v7] ∧
      Same G H' ∧ H' A = some (.lst ((fillA ((ks.take i).map (·.2))).map V.str)) ∧ H' B = some (.lst ((revB ((ks.take i).map (·.2))).map V.str)) ∧ (fillA ((ks.take i).map (·.2))).length ≤ 5000 * i ∧ (revB ((ks.take i).map (·.2))).length ≤ 5000 * i)
    ⟨(c, cxt k.1 k.2), none, none, rfl, rfl, (Same.new nA).trans (Same.new nB), by rw [upd_ne AB, upd_same]; rfl, by rw [upd_same]; rfl, Nat.zero_le _, Nat.zero_le _⟩ (fun i σ H' _ ⟨_, _, _, _, _, s, _⟩ => .inl (Rd.same rest2 s)) ?_ ?_
  · rintro i x σ H' hx ⟨p, v6, v7, hp, rfl, sm, hA, hB, lA, lB⟩
    rw [List.getElem?_map, Option.map_eq_some_iff] at hx
    obtain ⟨nx, hnx, rfl⟩ := hx
    have hi : i < ks.length := by
      rw [← nks]
      exact (List.getElem?_eq_some_iff.mp hnx).1
    have g0 := gt i hi
    rw [g0] at hp
    have mem : ks[i] ∈ ks := List.getElem_mem hi
    have tk1 : ks.take (i + 1) = ks.take i ++ [ks[i]] := by rw [List.take_add_one, List.getElem?_eq_getElem hi]; rfl
    rw [tk1, List.map_append]
    generalize ks[i] = r at hp mem
    cases hp
    have c0 := cks r mem
    have cr := c0.same sm
    have fw := c0.few
    have lc : (cxt r.2.1 r.2.2).length = r.2.1.length + r.2.2.length + 1 := by
      unfold cxt
      rw [List.length_append, List.length_cons]
      omega
    refine ⟨_, rfl, ⟨_, _, rfl, cr.wp⟩, r.1, cxt r.2.1 r.2.2, hole, r.2.1.length, rfl, rfl, .inl cr.wp.ws, cxt_hole, cxt_before cr.is.na, ?_⟩
    refine ⟨_, rfl, .inl ⟨rfl, _, SqL.of hA⟩, _, rfl, _, rfl, _, rfl, slTo cr.wp.ws fun b1 H2 s3 w2 => ?_⟩
    rw [cxt_take] at w2
    refine ⟨A, b1, _, _, rfl, rfl, s3 _ _ hA, .inl w2, by rw [List.length_map, List.length_map, sizeLine_eq]; omega, ?_⟩
    have sm2 := sameU (o := .lst ((fillA ((ks.take i).map (·.2))).map V.str ++ r.2.1.map V.str)) (sm.trans s3) nGA
    have hB2 : (upd H2 A (.lst ((fillA ((ks.take i).map (·.2))).map V.str ++ r.2.1.map V.str))) B = some (.lst ((revB ((ks.take i).map (·.2))).map V.str)) := by
      rw [upd_ne AB.symm]
      exact s3 _ _ hB
    have hA2 : (upd H2 A (.lst ((fillA ((ks.take i).map (·.2))).map V.str ++ r.2.1.map V.str))) A = some (.lst ((fillA ((ks.take i).map (·.2)) ++ r.2.1).map V.str)) := by
      rw [upd_same, List.map_append]
    generalize upd H2 A (.lst ((fillA ((ks.take i).map (·.2))).map V.str ++ r.2.1.map V.str)) = H3 at sm2 hB2 hA2
    have cr3 := c0.same sm2
    refine ⟨_, rfl, .inl ⟨rfl, _, SqL.of hB2⟩, _, rfl, _, rfl, _, rfl, r.1, _, r.2.1.length, rfl, rfl, .inl cr3.wp.ws, by rw [List.length_map]; omega, fun b2 nb2 => ?_⟩
    have e2 : (((cxt r.2.1 r.2.2).map V.str).drop (r.2.1.length + 1)).reverse = (r.2.2.reverse).map V.str := by
      rw [← List.map_drop, cxt_drop, List.map_reverse]
    rw [e2]
    have Bb : B ≠ b2 := ne_of_none hB2 nb2
    have Ab : A ≠ b2 := ne_of_none hA2 nb2
    refine ⟨B, b2, _, _, rfl, rfl, by rw [upd_ne Bb]; exact hB2, SqT.of upd_same, by rw [List.length_map, List.length_map, List.length_reverse, sizeLine_eq]; omega, ?_⟩
    refine ⟨_, rfl, nx, _, _, hnx, rfl, sameU (sm2.trans (Same.new nb2)) nGB, ?_, ?_, ?_, ?_⟩
    · rw [upd_ne AB, upd_ne Ab, hA2]
      show _ = some (HO.lst ((fillA ((ks.take i).map (·.2) ++ [r.2])).map V.str))
      rw [fillA_snoc]
    · rw [upd_same]
      show _ = some (HO.lst ((revB ((ks.take i).map (·.2) ++ [r.2])).map V.str))
      rw [revB_snoc, List.map_append]
    · show (fillA ((ks.take i).map (·.2) ++ [r.2])).length ≤ _
      rw [fillA_snoc, List.length_append]
      omega
    · show (revB ((ks.take i).map (·.2) ++ [r.2])).length ≤ _
      rw [revB_snoc, List.length_append, List.length_reverse]
      omega
  · rintro σ H' ⟨p, v6, v7, hp, rfl, sm, hA, hB, lA, lB⟩
    rw [List.length_map, nks] at hp lA lB hA hB
    rw [List.take_of_length_le (Nat.le_refl _)] at lA lB hA hB
    rw [lst] at hp
    cases hp
    have few5 : ks.length ≤ 1001 := by omega
    have lw : Ws G (lastW c k z).1 (lastW c k z).2 ∧ (lastW c k z).2.length ≤ 5000 := by
      cases z with
      | none => exact ⟨fa2.first.wp.ws, fa2.first.few⟩
      | some u => exact ⟨(fa2.last u rfl).ws, (fa2.last u rfl).few⟩
    have lp : (∀ u, z = some u → Wp H u.1 u.2) → Wp G (lastW c k z).1 (lastW c k z).2 := fun h => by
      cases z with
      | none => exact fa2.first.wp
      | some u => exact (h u rfl).same s2
    rw [er] at q small
    generalize lastW c k z = u at lw lp q small
    refine ⟨_, rfl, A, _, rfl, SqL.of hA, fun q1 H2 n1 s3 w3 => ?_⟩
    have w3 : Wp H2 q1 (fillA (ks.map (·.2))) := w3
    refine ⟨_, rfl, catB w3 (lw.1.same (sm.trans s3)) (by rw [sizeLine_eq]; omega) fun q2 H3 s4 w4 p4 => ?_⟩
    refine ⟨_, rfl, B, _, rfl, SqL.of (s4 _ _ (s3 _ _ hB)), fun R nR => ⟨R, _, rfl, SqL.of upd_same, fun q3 H5 n3 s5 w5 => ?_⟩⟩
    have s6 := (Same.new nR).trans s5
    rw [← List.map_reverse] at w5
    have w5 : Wp H5 q3 (revB (ks.map (·.2))).reverse := w5
    refine catB2 (w4.same s6) w5 (by rw [List.length_append, List.length_reverse, sizeLine_eq]; omega) fun q4 H6 s7 w7 p7 => ?_
    rw [List.append_assoc] at w7 p7
    refine q small q4 H6 ?_ w7 (fun h => p7 ((p4 ((lp h).same (sm.trans s3))).same s6))
    exact ((((s2.trans sm).trans s3).trans s4).trans s6).trans s7
end
end Pr
namespace Pr
open PySem PySem.Spec PyProof.Rows L2 Gd
/-! ### _law_end -/
def spEndL : Sp := fun vs H Q _ => ∃ (ad t : Addr) (l : List (Str × Nat)) (zs : List Str) (p : Nat), vs = [.ref ad, .ref t, .int (p : Int)] ∧ H ad = some (.dK (dkv l)) ∧ Ws H t zs ∧ (l.map (·.1)).Nodup ∧ Fo l 1 zs ∧ p < zs.length ∧ ∀ H', Same H H' → Q (.int ((stopAt l zs p : Nat) : Int)) H'
section
variable {P : Program} {w : World} {K : PySem.W.Frag} {mg : Str → Option Value} {base : Heap}
theorem scEndL : FnScope ["arities", "tree", "place", "left", "there", "name"] ["arities", "tree", "place"] (defScope sEndL) := ⟨rfl, rfl, rfl, by decide +kernel, rfl, by decide +kernel, by decide +kernel⟩
theorem ok_endL {f : Addr} {fd : FuncData} (F : Fun K "_law_end" "_law_end" sEndL f fd) (T : Free mg) : FnOk P w K mg base CX0 1 f fd ["arities", "tree", "place"] spEndL := by
  refine F.ok scEndL (fun vs H Q E h => ?_) (fun cdv A outer s H vs Q E hr h => ?_)
  · obtain ⟨ad, t, l, zs, p, rfl, _⟩ := h
    rfl
  · obtain ⟨ad, t, l, zs, p, rfl, had, ht, nd, fo0, hp, q⟩ := h
    have hu := hr.units
    have hu1 : ∀ {u : Nat}, u + 64 < cLine → u + 1 < cLine := fun h => by omega
    refine ⟨_, pss_cons (ps_par (i := 3) (j := 4) (by rfl) scEndL.nd rfl rfl (by decide) rfl rfl (pa_cons pe_int (pa_cons (pv 2) pa_nil)) (by rfl))
      (pss_cons (ps_for PassesOwn.never rfl (pi_tup (pe_slice sl_tupA (pv 1) (po_some (pv 2)) po_none)) (pg_name (i := 5) scEndL.nd rfl (.inl rfl))
        (pss_cons (ps_par (i := 3) (j := 4) (by rfl) scEndL.nd rfl rfl (by decide) rfl rfl (pa_cons (pe_op op_add (pe_op op_sub (pv 3) pe_int) (pe_dget2 (hu1 hu) (pv 0) (pv 5) pe_int ⟨by rfl, by rfl, by rfl, by rfl⟩)) (pa_cons (pe_op op_add (pv 4) pe_int) pa_nil)) (by rfl))
        (pss_one (ps_if (pt_cmpR op_eq (pv 3) pe_int (nomark _)) (pss_one ps_break) pss_nil))))
      (pss_one (ps_ret (pv 4)))), ?_⟩
    obtain ⟨r, fo⟩ := Fo.drop fo0 hp
    have ed : (zs.drop p).length = zs.length - p := List.length_drop
    refine ⟨_, rfl, _, _, rfl, _, rfl, _, rfl, _, rfl, noPart (slFrom ht fun b1 H1 s1 w1 => ?_)⟩
    refine ⟨b1, rfl, ⟨_, .inl w1⟩, ?_⟩
    refine for_tup (K := K) (a := b1) (xs := (zs.drop p).map V.str) (fun i σ H' => ∃ (k : Nat) (v5 : Option V), σ = [some (.ref ad), some (.ref t), some (.int (p : Int)), some (.int ((k + 1 : Nat) : Int)), some (.int ((p + i : Nat) : Int)), v5] ∧ H' = H1 ∧ Fo l (k + 1 + r) (zs.drop (p + i)) ∧ p + i + ext l (zs.drop (p + i)) (k + 1) = stopAt l zs p)
      ⟨0, none, rfl, rfl, by rw [Nat.add_comm]; exact fo, rfl⟩ (fun i σ H' _ ⟨_, _, _, e, _⟩ => by rw [e]; exact .inl w1) ?_ ?_
    · rintro i x σ H' hx ⟨k, v5, rfl, rfl, f1, ej⟩
      rw [List.getElem?_map, Option.map_eq_some_iff] at hx
      obtain ⟨z, hz, rfl⟩ := hx
      have hi := (List.getElem?_eq_some_iff.mp hz).1
      rw [ed] at hi
      have jl : p + i < zs.length := by omega
      have hd : zs.drop (p + i) = zs[p + i] :: zs.drop (p + i + 1) := List.drop_eq_getElem_cons jl
      have ez : zs[p + i] = z := by
        rw [List.getElem?_drop, List.getElem?_eq_getElem jl] at hz
        exact Option.some.inj hz
      rw [hd, ez] at f1 ej
      obtain ⟨a, m, f2⟩ : ∃ a, (z, a) ∈ l ∧ Fo l (k + r + a) (zs.drop (p + i + 1)) := by
        have e : k + 1 + r = (k + r) + 1 := by omega
        rw [e] at f1
        cases f1 with
        | cons m h => exact ⟨_, m, h⟩
      have vz := val_some nd m
      have ej2 : p + i + (1 + ext l (zs.drop (p + i + 1)) (k + ar l z)) = stopAt l zs p := ej
      rw [ar_eq nd m] at ej2
      have ha1 := s1 _ _ had
      have dg : DGet H' ad (kV (.inr z : Key)) (some (.int (a : Int))) := vz ▸ DGet.k (k := .inr z) ha1
      refine ⟨_, rfl, _, _, rfl, rfl, _, rfl, ad, rfl, .inl ⟨_, .inl ha1⟩, _, rfl, _, dg, _, _, rfl, rfl, _, rfl, _, _, rfl, rfl, _, _, rfl, ?_⟩
      have e1 : ((k + 1 : Nat) : Int) - 1 + (a : Int) = ((k + a : Nat) : Int) := by omega
      have e2 : ((p + i : Nat) : Int) + 1 = ((p + (i + 1) : Nat) : Int) := by omega
      refine ⟨_, rfl, rfl, _, rfl, ?_⟩
      cases ka : k + a with
      | zero =>
        have e3 : ext l (zs.drop (p + i + 1)) (k + a) = 0 := by rw [ka, ext_zero]
        rw [e3] at ej2
        have e4 : ((p + i : Nat) : Int) + 1 = ((stopAt l zs p : Nat) : Int) := by omega
        refine if_true_of (decide_eq_true (congrArg V.int (by omega))) ⟨_, rfl, ?_⟩
        show Q (.int (((p + i : Nat) : Int) + 1)) H'
        rw [e4]
        exact q _ s1
      | succ k2 =>
        refine if_false_of (decide_eq_false fun z => by have := V.int.inj z; omega) ⟨k2, some (V.str z), ?_, rfl, ?_, ?_⟩
        · show ([some (V.ref ad), some (V.ref t), some (V.int (p : Int)), some (V.int (((k + 1 : Nat) : Int) - 1 + (a : Int))), some (V.int (((p + i : Nat) : Int) + 1)), some (V.str z)] : L2.St) = _
          rw [e1, e2, ka]
        · have e : k2 + 1 + r = k + r + a := by omega
          rw [e]
          exact f2
        · have e : p + (i + 1) = p + i + 1 := by omega
          rw [← ka, e]
          omega
    · rintro σ H' ⟨k, v5, rfl, rfl, f1, ej⟩
      rw [List.length_map, ed, show p + (zs.length - p) = zs.length by omega, List.drop_length] at f1
      have e : k + 1 + r = (k + r) + 1 := by omega
      rw [e] at f1
      cases f1
end
end Pr
namespace Pr
open PySem PySem.Spec PyProof.Rows L2 Gd
/-! ### _law_drawn_context, _law_put -/
def spDCtx : Sp := fun vs H Q _ => ∃ (d p : Addr) (cap n : Nat) (l : List (Str × Nat)), vs = [.ref d, .ref p, .int (cap : Int)] ∧ p ≠ d ∧ H p = some (.dK (dkv l)) ∧ Ars l ∧ hole ∉ l.map (·.1) ∧ 1 ≤ cap ∧ cap ≤ 400 ∧ Dice H d n ∧ n + 2 * cap + 4 < 1000000 ∧
  ∀ (q : Addr) (c : Cw) (H' : Hp), q ≠ d → Kp d H H' → Wp H' q (cxt c.1 c.2) → IsC l c.1 c.2 → (cxt c.1 c.2).length ≤ cap + 2 → Dice H' d (n + 2 * cap + 4) → Q (.ref q) H'
theorem Rd.kp {d a : Addr} {H H' : Hp} {u : HO} (h : Rd H a u) (k : Kp d H H') (n : a ≠ d) : Rd H' a u := by
  rcases h with h | ⟨o, h⟩
  · exact .inl (k _ _ n h)
  · exact .inr ⟨o, k _ _ n h⟩
theorem Wp.kp {d a : Addr} {H H' : Hp} {zs : List Str} (h : Wp H a zs) (k : Kp d H H') (n : a ≠ d) : Wp H' a zs := let ⟨o, e, x⟩ := h; ⟨o, k _ _ n e, x⟩
/-- something put in the place of the hole -/
def spPut : Sp := fun vs H Q _ => ∃ (c v : Addr) (k : Cw) (zs : List Str), vs = [.ref c, .ref v] ∧ Wp H c (cxt k.1 k.2) ∧ hole ∉ k.1 ∧ Ws H v zs ∧ k.1.length + zs.length + k.2.length ≤ sizeLine ∧ ∀ q H', Same H H' → Ws H' q (k.1 ++ (zs ++ k.2)) → Q (.ref q) H'
section
variable {P : Program} {w : World} {K : PySem.W.Frag} {mg : Str → Option Value} {base : Heap} {fR fP fM : Addr} {dR dP dM : FuncData} {fD fE : Addr} {dD dE : FuncData}
theorem scPut : FnScope ["context", "value", "at"] ["context", "value"] (defScope sPut) := ⟨rfl, rfl, rfl, by decide +kernel, rfl, by decide +kernel, by decide +kernel⟩
theorem ok_put {f : Addr} {fd : FuncData} (F : Fun K "_law_put" "_law_put" sPut f fd) (T : Free mg) : FnOk P w K mg base CX0 1 f fd ["context", "value"] spPut := by
  refine F.ok scPut (fun vs H Q E h => ?_) (fun cdv A outer s H vs Q E hr h => ?_)
  · obtain ⟨c, v, k, zs, rfl, _⟩ := h
    rfl
  · obtain ⟨c, v, k, zs, rfl, hc, na, hv, few, q⟩ := h
    refine ⟨_, pss_cons (ps_set (i := 2) scPut.nd rfl (.inl rfl) (Tx.pe_tm PySem.F.slot_tuple_index PySem.F.type_tuple_index mt_tup_index (pv 0) (pa_cons pe_str pa_nil)))
      (pss_one (ps_ret (pe_op Tx.op_catY (pe_op Tx.op_catY (pe_slice sl_tupA (pv 0) po_none (po_some (pv 2))) (pv 1)) (pe_slice sl_tupA (pv 0) (po_some (pe_op op_add (pv 2) pe_int)) po_none)))), ?_⟩
    refine ⟨_, rfl, ⟨_, _, rfl, hc⟩, c, cxt k.1 k.2, hole, k.1.length, rfl, rfl, .inl hc.ws, cxt_hole, cxt_before na, ?_⟩
    refine ⟨_, rfl, _, rfl, _, rfl, slTo hc.ws fun b1 H1 s1 w1 => ?_⟩
    rw [cxt_take] at w1
    refine ⟨_, rfl, catWs w1 (hv.same s1) (by omega) fun b2 H2 s2 w2 => ?_⟩
    have e1 : ((k.1.length : Nat) : Int) + 1 = ((k.1.length + 1 : Nat) : Int) := by omega
    refine ⟨_, rfl, _, rfl, _, _, rfl, rfl, _, rfl, ?_⟩
    rw [e1]
    refine noPart (slFrom ((hc.same (s1.trans s2)).ws) fun b3 H3 s3 w3 => ?_)
    rw [cxt_drop] at w3
    refine catWs (w2.same s3) w3 (by rw [List.length_append]; omega) fun b4 H4 s4 w4 => ?_
    rw [List.append_assoc] at w4
    exact q b4 H4 (((s1.trans s2).trans s3).trans s4) w4
theorem scDCtx : FnScope ["dice", "arities", "cap", "tree", "at"] ["dice", "arities", "cap"] (defScope sDCtx) := ⟨rfl, rfl, rfl, by decide +kernel, rfl, by decide +kernel, by decide +kernel⟩
theorem ok_dctx {f : Addr} {fd : FuncData} (F : Fun K "_law_drawn_context" "_law_drawn_context" sDCtx f fd) (D : Draws K mg fR fP fM dR dP dM) (FD : Fun K "_law_drawn_tree" "_law_drawn_tree" sDrawn fD dD) (bD : Binds K dD ["dice", "arities", "cap"] []) (gD : mg "_law_drawn_tree" = some (.ref fD))
    (FE : Fun K "_law_end" "_law_end" sEndL fE dE) (bE : Binds K dE ["arities", "tree", "place"] []) (gE : mg "_law_end" = some (.ref fE)) (T : Free mg) : FnOk P w K mg base CX0 4 f fd ["dice", "arities", "cap"] spDCtx := by
  have GR : FnOk P w K mg base CX0 1 fR dR ["dice", "total"] spRoll := ok_roll D.FR T
  have GD : FnOk P w K mg base CX0 3 fD dD ["dice", "arities", "cap"] spDrawn := ok_drawn FD D T
  have GE : FnOk P w K mg base CX0 1 fE dE ["arities", "tree", "place"] spEndL := ok_endL FE T
  refine F.ok scDCtx (fun vs H Q E h => ?_) (fun cdv A outer s H vs Q E hr h => ?_)
  · obtain ⟨d, p, cap, n, l, rfl, _⟩ := h
    rfl
  · obtain ⟨d, p, cap, n, l, rfl, npd, hp, ars, no, c1, c4, di, hn, q⟩ := h
    refine ⟨_, pss_cons (ps_set (i := 3) scDCtx.nd rfl (.inl rfl) (pe_call GD (hr.mono (by decide)) (by rfl) gD FD.kp bD .nil pass0 (pa_cons (pv 0) (pa_cons (pv 1) (pa_cons (pv 2) pa_nil)))))
      (pss_cons (ps_set (i := 4) scDCtx.nd rfl (.inl rfl) (pe_call GR (hr.mono (by decide)) (by rfl) D.gR D.FR.kp D.bR .nil pass0 (pa_cons (pv 0) (pa_cons (pe_callB call_len_seq (by rfl) T.len PySem.boot_len (pa_cons (pv 3) pa_nil)) pa_nil))))
      (pss_one (ps_ret (pe_op Tx.op_catY (pe_op Tx.op_catY (pe_slice sl_tupA (pv 3) po_none (po_some (pv 4))) (Tx.pe_tupX (pa_cons pe_str pa_nil))) (pe_slice sl_tupA (pv 3) (po_some (pe_call GE (hr.mono (by decide)) (by rfl) gE FE.kp bE .nil pass0 (pa_cons (pv 1) (pa_cons (pv 3) (pa_cons (pv 4) pa_nil))))) po_none))))), ?_⟩
    refine ⟨_, rfl, _, rfl, _, rfl, d, p, cap, n, l, rfl, npd, hp, ars, c1, c4, di, by omega, fun t zs H1 td tn k1 ht fo lz di1 => ?_⟩
    obtain ⟨ds1, hd1⟩ := di1.there
    have lzv : (zs.map V.str).length = zs.length := List.length_map _
    have pos : 0 < zs.length := fo.len
    refine ⟨_, rfl, _, rfl, t, _, rfl, .inr (SqT.of ht), d, _, _, rfl, di1, by omega, by rw [lzv]; omega, by rw [lzv]; omega, fun r o1 r0 r1 di2 => ?_⟩
    obtain ⟨a, rfl⟩ := Int.eq_ofNat_of_zero_le r0
    rw [lzv] at r1
    have ha : a < zs.length := by omega
    have k2 : Kp d H1 (upd H1 d o1) := Kp.upd
    have w0 : Ws (upd H1 d o1) t zs := Rd.kp (.inl ht) k2 td
    have hp2 := k2 _ _ npd (k1 _ _ npd hp)
    have k02 := k1.trans k2
    obtain ⟨ds2, hd2⟩ := di2.there
    generalize upd H1 d o1 = H2 at w0 hp2 k02 di2 hd2 ⊢
    obtain ⟨ez, ic⟩ := cut_ctx ars.nd no fo ha
    obtain ⟨le1, le2⟩ := stop_le ars.nd fo ha
    refine ⟨_, rfl, _, rfl, _, rfl, slTo w0 fun b1 H3 s3 w3 => ?_⟩
    refine ⟨by show 1 ≤ sizeLine; decide, fun b2 H4 n4 s4 w4 => ?_⟩
    refine catWpR (ys := [hole]) (w3.same s4) w4 (by simp) (by rw [List.length_take, sizeLine_eq]; simp; omega) fun b3 H5 s5 w5 => ?_
    have s25 := (s3.trans s4).trans s5
    refine ⟨_, rfl, _, rfl, _, rfl, _, rfl, p, t, l, zs, a, rfl, s25 _ _ hp2, w0.same s25, ars.nd, fo, ha, fun H6 s6 => ?_⟩
    have s26 := s25.trans s6
    refine ⟨_, rfl, noPart (slFrom (w0.same s26) fun b4 H7 s7 w7 => ?_)⟩
    refine catWpL (w5.same (s6.trans s7)) w7 (by simp) (by rw [List.length_append, List.length_take, List.length_drop, sizeLine_eq]; simp; omega) fun b5 H8 s8 w8 => ?_
    rw [List.append_assoc] at w8
    have s28 := (s26.trans s7).trans s8
    have nb5 : b5 ≠ d := fun e => by
      obtain ⟨ob, h, _⟩ := w8
      rw [e, s28 _ _ hd2] at h
      cases h
    refine q b5 (zs.take a, zs.drop (stopAt l zs a)) H8 nb5 (k02.trans (Kp.same s28)) w8 ic ?_ ((di2.same s28).more (by omega) (by omega))
    show (zs.take a ++ hole :: zs.drop (stopAt l zs a)).length ≤ cap + 2
    rw [List.length_append, List.length_cons, List.length_take, List.length_drop]
    omega
end
end Pr
namespace Pr
open PySem PySem.Spec PyProof.Rows L2 Gd
/-! ### the operators where the dice are thrown; rows that are compared -/
theorem Fo.mem {l : List (Str × Nat)} : ∀ {n : Nat} {zs : List Str}, Fo l n zs → ∀ z ∈ zs, ∃ a, (z, a) ∈ l
  | _, _, .nil, _, m => by cases m
  | _, _, .cons m h, y, hy => by
    rcases List.mem_cons.mp hy with rfl | hy
    · exact ⟨_, m⟩
    · exact Fo.mem h y hy
theorem neAny {K : PySem.W.Frag} {H : Hp} {x y : V} {Q : VK} {d : PyData} (hx : Dp K H x d) (hy : Dp K H y d) (hs : SeqAt.shaped d = true) (q : Q (.bl false) H) : rNeD K x y H Q :=
  ⟨_, _, hx, hy, hs, hs, by rw [SeqAt.eqv_refl _ (SeqAt.canLay_of_shaped hs)]; exact q⟩
theorem eqAny {K : PySem.W.Frag} {H : Hp} {x y : V} {Q : VK} {d : PyData} (hx : Dp K H x d) (hy : Dp K H y d) (hs : SeqAt.shaped d = true) (q : Q (.bl true) H) : rEqD K x y H Q :=
  ⟨_, _, hx, hy, hs, hs, by rw [SeqAt.eqv_refl _ (SeqAt.canLay_of_shaped hs)]; exact q⟩
theorem OpsAt.kp {H H' : Hp} {C o d : Addr} {l : List (Str × Nat)} {xs : List V} (h : OpsAt H C o l) (hd : H d = some (.lst xs)) (k : Kp d H H') : OpsAt H' C o l := by
  obtain ⟨dx, tn, ta, tl, a, b, c⟩ := h.ex
  refine ⟨dx, tn, ta, tl, k _ _ (fun e => ?_) a, k _ _ (fun e => ?_) b, k _ _ (fun e => ?_) c⟩
  · rw [e, hd] at a
    cases a
  · rw [e, hd] at b
    cases b
  · rw [e, hd] at c
    cases c
/-- Operators(..) of a dict that is let -/
theorem mkOps {C : Addr} {H1 : Hp} {a x dx : Addr} {l : List (Str × Nat)} {R : Hp → Prop} {E : XK} (nx : H1 x = none) (ndx : H1 dx = none) (ha : H1 a = some (.dK (dkv l))) (ok : OpsOk l) (q : ∀ (l' : List (Str × Nat)) (H' : Hp), Same H1 H' → l'.Perm l → OpsAt H' C x l' → R H') :
    spInit C (.ref x :: ([.ref a] ++ [])) (upd (upd H1 dx (.own x)) x (.ins C dx [])) (fun v H2 => v = .non ∧ R H2) E := by
  have s1 : Same H1 (upd (upd H1 dx (.own x)) x (.ins C dx [])) := fun b u e => by
    rw [upd_ne (ne_of_none e nx), upd_ne (ne_of_none e ndx)]
    exact e
  exact ⟨x, dx, a, l, rfl, upd_same, s1 _ _ ha, ok, fun l' H' pm kp op => ⟨rfl, q l' H' (Kp.over nx s1 kp) pm op⟩⟩
theorem depth1 : ∀ {ds : List PyData}, (∀ d ∈ ds, d.depth ≤ 1) → PyData.depthAll ds ≤ 1
  | [], _ => by simp [PyData.depthAll]
  | d :: ds, h => by
    simp only [PyData.depthAll]
    have h1 := h d List.mem_cons_self
    have h2 := depth1 fun x m => h x (List.mem_cons_of_mem _ m)
    omega
theorem shaped_rows {zss : List (List Str)} (h : ∀ zs ∈ zss, ∀ z ∈ zs, PyData.strOk z = true) : SeqAt.shaped (.tuple (zss.map fun zs => .tuple (zs.map strD))) = true := by
  have each : ∀ d ∈ zss.map (fun zs => PyData.tuple (zs.map strD)), d.depth ≤ 1 ∧ d.canLay0 = true := fun d m => by
    obtain ⟨zs, hz, rfl⟩ := List.mem_map.mp m
    have s := shaped_strs (h zs hz)
    refine ⟨?_, SeqAt.canLay_of_shaped s⟩
    have e : PyData.depth (.tuple (zs.map strD)) = PyData.depthAll (zs.map strD) + 1 := by simp only [PyData.depth]
    rw [e, low_depth fun d m => by
      obtain ⟨z, _, rfl⟩ := List.mem_map.mp m
      unfold strD
      simp only [PyData.depth]]
    exact Nat.le_refl _
  have e : PyData.depth (.tuple (zss.map fun zs => .tuple (zs.map strD))) = PyData.depthAll (zss.map fun zs => PyData.tuple (zs.map strD)) + 1 := by simp only [PyData.depth]
  have e2 : PyData.canLay0 (.tuple (zss.map fun zs => .tuple (zs.map strD))) = PyData.canLayAll0 (zss.map fun zs => PyData.tuple (zs.map strD)) := by simp only [PyData.canLay0]
  unfold SeqAt.shaped
  have d1 := depth1 fun d m => (each d m).1
  rw [e, e2, lay_all fun d m => (each d m).2, decide_eq_true (by omega)]
  rfl
/-- two pairs of equal rows -/
theorem nePair {K : PySem.W.Frag} {H : Hp} {a b c u c2 u2 : Addr} {Q : VK} {xs ys : List Str} (ha : Rd H a (.tup [.ref c, .ref u])) (hb : Rd H b (.tup [.ref c2, .ref u2])) (hc : Ws H c xs) (hu : Ws H u ys) (hc2 : Ws H c2 xs) (hu2 : Ws H u2 ys)
    (hx : ∀ z ∈ xs, PyData.strOk z = true) (hy : ∀ z ∈ ys, PyData.strOk z = true) (q : Q (.bl false) H) : rNeD K (.ref a) (.ref b) H Q :=
  neAny (d := .tuple ([xs, ys].map fun zs => .tuple (zs.map strD))) (.tup (.inl ha) (.cons (.tup (.inl hc) (dp_strs xs)) (.cons (.tup (.inl hu) (dp_strs ys)) .nil))) (.tup (.inl hb) (.cons (.tup (.inl hc2) (dp_strs xs)) (.cons (.tup (.inl hu2) (dp_strs ys)) .nil)))
    (shaped_rows fun zs m => by
      rcases List.mem_cons.mp m with rfl | m
      · exact hx
      · rw [List.mem_singleton.mp m]
        exact hy) q
def spFill (C CT : Addr) : Sp := fun vs H Q E => ∃ ws rest, vs = ws ++ rest ∧ ws.length = 2 ∧ rest.length ≤ sizeLine ∧ ∀ p, H p = Option.none → spFillB C CT (ws ++ [V.ref p]) (upd H p (.tup rest)) Q E
/-- filled is called -/
theorem fillSp {H : Hp} {C CT o c : Addr} {l : List (Str × Nat)} {k : Cw} {mid : List (Addr × Cw)} {z : Option (Addr × List Str)} {Q : VK} {E : XK} (ops : OpsAt H C o l) (no : hole ∉ l.map (·.1)) (nd : (l.map (·.1)).Nodup) (eight : l.length ≤ 8) (first : CtxR H l (c, k)) (mids : ∀ p ∈ mid, CtxR H l p)
    (none_ : z = none → mid = []) (last : ∀ u, z = some u → LastR H l u.1 u.2) (small : mid.length ≤ 1000)
    (q : (resF k mid z).length ≤ 5000 → ∀ r H', Same H H' → Ws H' r (resF k mid z) → ((∀ u, z = some u → Wp H u.1 u.2) → Wp H' r (resF k mid z)) → Q (.ref r) H')
    (qe : 5000 < (resF k mid z).length → ∀ d H', Same H H' → H' d = none → E (.ref CT) (some d) (upd H' d errL)) : spFill C CT ([.ref o, .ref c] ++ ((mid.map fun p => refV p.1) ++ lastL z)) H Q E := by
  refine ⟨[.ref o, .ref c], _, rfl, rfl, ?_, fun p np => ⟨o, c, p, l, k, mid, z, rfl, ?_, fun h r H' s w pl => q h r H' ((Same.new np).trans s) w fun hp => pl fun u e => (hp u e).same (Same.new np), fun h d H' s n => qe h d H' ((Same.new np).trans s) n⟩⟩
  · rw [List.length_append, List.length_map, sizeLine_eq]
    cases z with
    | none => show mid.length + 0 ≤ _; omega
    | some u => show mid.length + 1 ≤ _; omega
  · have s : Same H (upd H p (.tup ((mid.map fun p => refV p.1) ++ lastL z))) := Same.new np
    exact ⟨ops.same s, no, nd, eight, first.same s, fun p m => (mids p m).same s, .inl upd_same, none_, fun u e => (last u e).same s, small⟩
end Pr
namespace Pr
open PySem PySem.Spec PyProof.Rows L2 Gd
/-! ### _law_tree_right -/
/-- the operators, by their own row and by the law's, and the dice -/
structure Sit (H : Hp) (C d o ad : Addr) (l l0 : List (Str × Nat)) : Prop where
  ops : OpsAt H C o l
  had : H ad = some (.dK (dkv l0))
  pm : l.Perm l0
  ars : Ars l0
  nad : ad ≠ d
theorem Sit.same {H H' : Hp} {C d o ad : Addr} {l l0 : List (Str × Nat)} (h : Sit H C d o ad l l0) (s : Same H H') : Sit H' C d o ad l l0 := ⟨h.ops.same s, s _ _ h.had, h.pm, h.ars, h.nad⟩
theorem Sit.kp {H H' : Hp} {C d o ad : Addr} {l l0 : List (Str × Nat)} {xs : List V} (h : Sit H C d o ad l l0) (hd : H d = some (.lst xs)) (k : Kp d H H') : Sit H' C d o ad l l0 := ⟨h.ops.kp hd k, k _ _ h.nad h.had, h.pm, h.ars, h.nad⟩
section
variable {H : Hp} {C d o ad : Addr} {l l0 : List (Str × Nat)}
theorem Sit.nd0 (h : Sit H C d o ad l l0) : (l0.map (·.1)).Nodup := h.ars.nd
theorem Sit.nd (h : Sit H C d o ad l l0) : (l.map (·.1)).Nodup := (h.pm.map _).nodup_iff.mpr h.ars.nd
theorem Sit.two (h : Sit H C d o ad l l0) : ∀ p ∈ l, p.2 ≤ 2 := fun p m => h.ars.two p (h.pm.mem_iff.mp m)
theorem Sit.eight (h : Sit H C d o ad l l0) : l.length ≤ 8 := by
  rw [h.pm.length_eq]
  have := h.ars.few.2
  omega
theorem hole_pool : hole ∉ pool := by decide +kernel
theorem pool_ok : ∀ z ∈ pool, PyData.strOk z = true := by decide +kernel
theorem hole_ok : PyData.strOk hole = true := by decide +kernel
theorem Sit.no0 (h : Sit H C d o ad l l0) : hole ∉ l0.map (·.1) := fun m => by
  obtain ⟨p, hp, e⟩ := List.mem_map.mp m
  exact hole_pool (e ▸ h.ars.pool p hp)
theorem Sit.no (h : Sit H C d o ad l l0) : hole ∉ l.map (·.1) := fun m => h.no0 ((h.pm.map _).mem_iff.mp m)
theorem Sit.fo (h : Sit H C d o ad l l0) {n : Nat} {zs : List Str} (f : Fo l0 n zs) : Fo l n zs := Fo.perm h.pm f
theorem Sit.ok (h : Sit H C d o ad l l0) {n : Nat} {zs : List Str} (f : Fo l n zs) : ∀ z ∈ zs, PyData.strOk z = true := fun z m => by
  obtain ⟨b, mb⟩ := f.mem z m
  exact pool_ok _ (h.ars.pool _ (h.pm.mem_iff.mp mb))
theorem Sit.okH (h : Sit H C d o ad l l0) {n : Nat} {zs : List Str} (f : Fo (lH l) n zs) : ∀ z ∈ zs, PyData.strOk z = true := fun z m => by
  obtain ⟨b, mb⟩ := f.mem z m
  rcases List.mem_append.mp mb with mb | mb
  · exact pool_ok _ (h.ars.pool _ (h.pm.mem_iff.mp mb))
  · cases List.mem_singleton.mp mb
    exact hole_ok
end
theorem ext_len {l : List (Str × Nat)} (nd : (l.map (·.1)).Nodup) {r : List Str} : ∀ {n : Nat} {zs : List Str}, Fo l n zs → ext l (zs ++ r) n = zs.length
  | _, _, .nil => ext_zero _
  | _, _, .cons (z := z) (a := a) (n := n) (zs := zs) m f => by
    show 1 + ext l (zs ++ r) (n + ar l z) = zs.length + 1
    rw [ar_eq nd m, ext_len nd f]
    omega
/-- another tree at a place, cut again -/
theorem cut_again {l : List (Str × Nat)} (nd : (l.map (·.1)).Nodup) {a ys b : List Str} (f : Fo l 1 ys) : (a ++ (ys ++ b)).take a.length = a ∧ sub l (a ++ (ys ++ b)) a.length = ys ∧ (a ++ (ys ++ b)).drop (stopAt l (a ++ (ys ++ b)) a.length) = b := by
  have d : (a ++ (ys ++ b)).drop a.length = ys ++ b := by simp
  have e := ext_len nd (r := b) f
  refine ⟨by simp, ?_, ?_⟩
  · unfold sub
    rw [d, e]
    simp
  · have es : stopAt l (a ++ (ys ++ b)) a.length = a.length + ys.length := by
      show a.length + ext l ((a ++ (ys ++ b)).drop a.length) 1 = _
      rw [d, e]
    rw [es, ← List.append_assoc, ← List.length_append]
    simp
def spTreeR (C : Addr) : Sp := fun vs H Q _ => ∃ (d o ad t : Addr) (l l0 : List (Str × Nat)) (zs : List Str) (n : Nat), vs = [.ref d, .ref o, .ref ad, .ref t] ∧ Sit H C d o ad l l0 ∧ t ≠ d ∧ Ws H t zs ∧ Fo l0 1 zs ∧ zs.length ≤ 20 ∧ Dice H d n ∧ n + 30 < 1000000 ∧
  ∀ H', Kp d H H' → Dice H' d (n + 30) → Q (.bl true) H'
structure Own1 (K : PySem.W.Frag) (mg : Str → Option Value) (C CT fL : Addr) (tk2 : Tok) (fD fE fX fY fU fR fF : Addr) (dD dE dX dY dU dR dF : FuncData) : Prop where
  FD : Fun K "_law_drawn_tree" "_law_drawn_tree" sDrawn fD dD
  bD : Binds K dD ["dice", "arities", "cap"] []
  gD : mg "_law_drawn_tree" = some (.ref fD)
  FE : Fun K "_law_end" "_law_end" sEndL fE dE
  bE : Binds K dE ["arities", "tree", "place"] []
  gE : mg "_law_end" = some (.ref fE)
  x : MtF K C "is_context" "Operators.is_context" mIsCtx fX dX ["self", "value"]
  y : MtF K C "_check_filling" "Operators._check_filling" mChFill fY dY ["self", "context", "rest"]
  u : MtF K C "cut" "Operators.cut" mCut fU dU ["self", "tree", "place"]
  r : MtF K C "replaced" "Operators.replaced" mReplaced fR dR ["self", "tree", "place", "other"]
  F : Fun K "filled" "Operators.filled" mFilled fF dF
  m : Meth K C "filled" fF
  gH : mg "HOLE" = some (.str hole tk2)
  L : PySem.TmnyX.TmnyTxt K mg CT fL
section
variable {P : Program} {w : World} {K : PySem.W.Frag} {mg : Str → Option Value} {base : Heap} {C fW fT fC fP fE fI fN : Addr} {dW dT dC dP dE dI dN : FuncData} {tk tk2 : Tok} {CT fL gD gE fX fY fU fR fF : Addr} {eD eE dX dY dU dR dF : FuncData} {qR qP qM : Addr} {zR zP zM : FuncData}
theorem scTreeR : FnScope ["dice", "ops", "arities", "tree", "other", "place", "end", "told", "context", "due", "back"] ["dice", "ops", "arities", "tree"] (defScope sTreeR) := ⟨rfl, rfl, rfl, by decide +kernel, rfl, by decide +kernel, by decide +kernel⟩
theorem ok_treeR {f : Addr} {fd : FuncData} (F : Fun K "_law_tree_right" "_law_tree_right" sTreeR f fd) (M : Ms K mg C fW fT fC fP fE fI fN dW dT dC dP dE dI dN tk) (U : Own1 K mg C CT fL tk2 gD gE fX fY fU fR fF eD eE dX dY dU dR dF) (D : Draws K mg qR qP qM zR zP zM) (T : Free mg) :
    FnOk P w K mg base CX0 6 f fd ["dice", "ops", "arities", "tree"] (spTreeR C) := by
  have GR : FnOk P w K mg base CX0 1 qR zR ["dice", "total"] spRoll := ok_roll D.FR T
  have GD : FnOk P w K mg base CX0 3 gD eD ["dice", "arities", "cap"] spDrawn := ok_drawn U.FD D T
  have GE : FnOk P w K mg base CX0 1 gE eE ["arities", "tree", "place"] spEndL := ok_endL U.FE T
  have GB : FnOk P w K mg base CX0 2 fT dT ["self", "value"] (spTreeB C) := ok_treeB M T
  have GX : FnOk P w K mg base CX0 2 fX dX ["self", "value"] (spCtxB C) := ok_isCtx U.x.F M U.gH T
  have GC : FnOk P w K mg base CX0 5 fU dU ["self", "tree", "place"] (spCut C) := ok_cut U.u.F M U.gH T
  have GP : FnOk P w K mg base (L2.CX P w) 5 fR dR ["self", "tree", "place", "other"] (spRepl C CT) := ok_repl U.r.F M U.L T
  have GF : FnR P w K mg base (L2.CX P w) 5 fF (spFill C CT) := (ok_fill U.F M U.x U.y U.gH U.L T).mono (by decide)
  refine F.ok scTreeR (fun vs H Q E h => ?_) (fun cdv A outer s H vs Q E hr h => ?_)
  · obtain ⟨d, o, ad, t, l, l0, zs, n, rfl, _⟩ := h
    rfl
  · obtain ⟨d, o, ad, t, l, l0, zs, n, rfl, si, ntd, ht, fo0, few, di, hn, q⟩ := h
    have hu := hr.units
    refine ⟨_, pss_cons (ps_set (i := 4) scTreeR.nd rfl (.inl rfl) (pe_call GD (hr.mono (by decide)) (by rfl) U.gD U.FD.kp U.bD .nil pass0 (pa_cons (pv 0) (pa_cons (pv 2) (pa_cons (pe_op op_add pe_int (pe_call GR (hr.mono (by decide)) (by rfl) D.gR D.FR.kp D.bR .nil pass0 (pa_cons (pv 0) (pa_cons pe_int pa_nil)))) pa_nil)))))
      (pss_cons (ps_for PassesOwn.never rfl (pi_range1 rfl T.range (pa_cons (pe_callB call_len_seq (by rfl) T.len PySem.boot_len (pa_cons (pv 3) pa_nil)) pa_nil)) (pg_name (i := 5) scTreeR.nd rfl (.inl rfl))
        (pss_cons (ps_set (i := 6) scTreeR.nd rfl (.inl rfl) (pe_call GE (hr.mono (by decide)) (by rfl) U.gE U.FE.kp U.bE .nil pass0 (pa_cons (pv 2) (pa_cons (pv 3) (pa_cons (pv 5) pa_nil)))))
        (pss_cons (ps_par (i := 7) (j := 8) (by rfl) scTreeR.nd rfl rfl (by decide) rfl rfl (pa_cons (pe_meth (pv 1) M.cf.cls U.u.m GC hr U.u.b .nil pass0 (pa_cons (pv 3) (pa_cons (pv 5) pa_nil)))
            (pa_cons (pe_op Tx.op_catY (pe_op Tx.op_catY (pe_slice sl_tupA (pv 3) po_none (po_some (pv 5))) (Tx.pe_tupX (pa_cons pe_str pa_nil))) (pe_slice sl_tupA (pv 3) (po_some (pv 6)) po_none)) pa_nil)) (by rfl))
        (pss_cons (ps_if (PW.pt (pw_or (pt_cmpR (op_neD hu) (pv 7) (pe_tup (pa_cons (pv 8) (pa_cons (pe_slice sl_tupA (pv 3) (po_some (pv 5)) (po_some (pv 6))) pa_nil))) (nomark _))
            (pw_or1 (pt_not (pt_val (pe_meth (pv 1) M.cf.cls U.x.m GX (hr.mono (by decide)) U.x.b .nil pass0 (pa_cons (pe_ix ix_tup (pv 7) pe_int (fun _ _ => rfl)) pa_nil))))))) (pss_one (ps_ret pe_bl)) pss_nil)
        (pss_cons (ps_if (PW.pt (pw_or (pt_cmpR (op_neD hu) (pe_methR (pv 1) M.cf.cls U.m GF hr passL (pa_cons (pe_ix ix_tup (pv 7) pe_int (fun _ _ => rfl)) (pa_cons (pe_ix ix_tup (pv 7) pe_int (fun _ _ => rfl)) pa_nil))) (pv 3) (nomark _))
            (pw_or1 (pt_cmpR (op_neD hu) (pe_meth (pv 1) M.cf.cls U.r.m GP hr U.r.b .nil passL (pa_cons (pv 3) (pa_cons (pv 5) (pa_cons (pe_ix ix_tup (pv 7) pe_int (fun _ _ => rfl)) pa_nil)))) (pv 3) (nomark _))))) (pss_one (ps_ret pe_bl)) pss_nil)
        (pss_cons (ps_set (i := 9) scTreeR.nd rfl (.inl rfl) (pe_op Tx.op_catY (pe_op Tx.op_catY (pe_slice sl_tupA (pv 3) po_none (po_some (pv 5))) (pv 4)) (pe_slice sl_tupA (pv 3) (po_some (pv 6)) po_none)))
        (pss_cons (ps_if (PW.pt (pw_or (pt_cmpR (op_neD hu) (pe_meth (pv 1) M.cf.cls U.r.m GP hr U.r.b .nil passL (pa_cons (pv 3) (pa_cons (pv 5) (pa_cons (pv 4) pa_nil)))) (pv 9) (nomark _))
            (pw_or (pt_cmpR (op_neD hu) (pe_methR (pv 1) M.cf.cls U.m GF hr passL (pa_cons (pe_ix ix_tup (pv 7) pe_int (fun _ _ => rfl)) (pa_cons (pv 4) pa_nil))) (pv 9) (nomark _))
            (pw_or1 (pt_not (pt_val (pe_meth (pv 1) M.cf.cls M.mT GB (hr.mono (by decide)) M.bT .nil pass0 (pa_cons (pv 9) pa_nil)))))))) (pss_one (ps_ret pe_bl)) pss_nil)
        (pss_cons (ps_set (i := 10) scTreeR.nd rfl (.inl rfl) (pe_meth (pv 1) M.cf.cls U.u.m GC hr U.u.b .nil pass0 (pa_cons (pv 9) (pa_cons (pv 5) pa_nil))))
        (pss_one (ps_if (pt_cmpR (op_neD hu) (pv 10) (pe_tup (pa_cons (pe_ix ix_tup (pv 7) pe_int (fun _ _ => rfl)) (pa_cons (pv 4) pa_nil))) (nomark _)) (pss_one (ps_ret pe_bl)) pss_nil))))))))))
      (pss_one (ps_ret pe_bl))), ?_⟩
    refine ⟨_, rfl, _, rfl, _, rfl, d, 6, n, rfl, di, by omega, by decide, by decide, fun r o1 r0 r1 di1 => ?_⟩
    obtain ⟨rk, rfl⟩ := Int.eq_ofNat_of_zero_le r0
    have hrk : rk < 6 := by omega
    have ecap : (1 : Int) + (rk : Nat) = ((rk + 1 : Nat) : Int) := by omega
    obtain ⟨ds, hd⟩ := di.there
    have k1 : Kp d H (upd H d o1) := Kp.upd
    have si1 := si.kp hd k1
    have w1 : Ws (upd H d o1) t zs := Rd.kp ht k1 ntd
    generalize upd H d o1 = H1 at di1 k1 si1 w1 ⊢
    obtain ⟨ds1, hd1⟩ := di1.there
    refine ⟨_, _, rfl, rfl, d, ad, rk + 1, n + 1, l0, by show [V.ref d, V.ref ad, V.int ((1 : Int) + (rk : Nat))] = _; rw [ecap], si.nad, si1.had, si.ars, by omega, by omega, di1, by omega, fun ot ys H2 notd _ k2 hot foy0 ly di2 => ?_⟩
    have si2 := si1.kp hd1 k2
    have w2 : Ws H2 t zs := Rd.kp w1 k2 ntd
    have wy : Ws H2 ot ys := .inl hot
    have k02 := k1.trans k2
    have lzv : (zs.map V.str).length = zs.length := List.length_map _
    have fo := si.fo fo0
    have foy := si.fo foy0
    have okz := si.ok fo
    have oky := si.ok foy
    have fin := fun H' (s : Same H2 H') => q H' (k02.trans (Kp.same s)) ((di2.same s).more (by omega) (by omega))
    clear q k02 k1 k2 si1 w1 di1 hd1 hot hd di ht
    refine ⟨_, rfl, t, _, rfl, .inr (.inl w2), _, rfl, by rw [lzv]; omega, by rw [lzv]; omega, ?_⟩
    refine for_range (lo := 0) (n := ((zs.map V.str).length : Int).toNat) (fun i σ H' => ∃ v5 v6 v7 v8 v9 v10 : Option V, σ = [some (.ref d), some (.ref o), some (.ref ad), some (.ref t), some (.ref ot), v5, v6, v7, v8, v9, v10] ∧ Same H2 H')
      ⟨none, none, none, none, none, none, rfl, Same.refl H2⟩ ?_ ?_
    · rintro p σ H3 hp ⟨v5, v6, v7, v8, v9, v10, rfl, s3⟩
      rw [lzv] at hp
      have hp : p < zs.length := by omega
      rw [Int.zero_add]
      have si3 := si2.same s3
      have w3 := w2.same s3
      have wy3 := wy.same s3
      obtain ⟨ez, ic⟩ := cut_ctx si.nd si.no fo hp
      obtain ⟨le1, le2⟩ := stop_le si.nd fo hp
      have est : stopAt l0 zs p = stopAt l zs p := (stop_perm si.nd0 si.pm zs p).symm
      obtain ⟨dx, tn, ta, tl, ho, hn', ha⟩ := si3.ops.ex
      refine ⟨_, rfl, _, rfl, _, rfl, ad, t, l0, zs, p, rfl, si3.had, w3, si.nd0, fo0, hp, fun H4 s4 => ?_⟩
      rw [est]
      have tr : ∀ G, Same H3 G → TreeAt G C o t l zs := fun G s => ⟨si3.ops.same s, w3.same s, si.nd, fo, by omega, si.two⟩
      have try_ : ∀ G, Same H3 G → TreeAt G C o ot l ys := fun G s => ⟨si3.ops.same s, wy3.same s, si.nd, foy, by omega, si.two⟩
      -- told, context
      refine ⟨_, rfl, o, dx, _, rfl, s4 _ _ ho, rfl, _, rfl, _, rfl, o, t, l, zs, p, rfl, tr _ s4, hp, fun r H5 s5 pr => ?_⟩
      obtain ⟨ca, ua, hr5, hc5, hu5⟩ := pr
      have s35 := s4.trans s5
      refine ⟨_, rfl, _, rfl, _, rfl, slTo (w3.same s35) fun b1 H6 s6 w6 => ?_⟩
      refine ⟨by show 1 ≤ sizeLine; decide, fun b2 H7 n7 s7 w7 => ?_⟩
      refine catWpR (ys := [hole]) (w6.same s7) w7 (by simp) (by rw [List.length_take, sizeLine_eq]; simp; omega) fun b3 H8 s8 w8 => ?_
      have s58 := (s6.trans s7).trans s8
      refine ⟨_, rfl, _, rfl, _, rfl, noPart (slFrom (w3.same (s35.trans s58)) fun b4 H9 s9 w9 => ?_)⟩
      refine catWpL (w8.same s9) w9 (by simp) (by rw [List.length_append, List.length_take, List.length_drop, sizeLine_eq]; simp; omega) fun cx H10 s10 wc => ?_
      rw [List.append_assoc] at wc
      have wc : Wp H10 cx (cxt (zs.take p) (zs.drop (stopAt l zs p))) := wc
      have s5x := (s58.trans s9).trans s10
      have s3x := s35.trans s5x
      have hr := Rd.same hr5 s5x
      have hc := hc5.same s5x
      have hu := hu5.same s5x
      clear hr5 hc5 hu5 w6 w7 w8 w9 s58 s6 s7 s8 s9 s10 s5x s4 s5 s35
      refine ⟨_, _, rfl, ?_⟩
      have okC : ∀ z ∈ cxt (zs.take p) (zs.drop (stopAt l zs p)), PyData.strOk z = true := si.okH ic.fo
      have okS : ∀ z ∈ sub l zs p, PyData.strOk z = true := fun z m => okz z (sub_mem m)
      have lenC : (cxt (zs.take p) (zs.drop (stopAt l zs p))).length ≤ 21 := by
        unfold cxt
        rw [List.length_append, List.length_cons, List.length_take, List.length_drop]
        omega
      have fS := sub_fo si.nd fo hp
      have lenS : (sub l zs p).length ≤ 20 := by
        have := congrArg List.length ez
        rw [List.length_append, List.length_append] at this
        omega
      -- what cut tells
      refine ⟨_, rfl, _, rfl, _, rfl, _, rfl, _, rfl, _, rfl, _, rfl, slSubR si.nd fo hp (w3.same s3x) fun b6 H11 s11 w11 => ?_⟩
      refine ⟨by show 2 ≤ sizeLine; decide, fun b7 n7 => ?_⟩
      have s7 : Same H11 (upd H11 b7 (.tup [.ref cx, .ref b6])) := Same.new n7
      refine nePair (Rd.same hr (s11.trans s7)) (.inl upd_same) (hc.same (s11.trans s7)).ws (hu.same (s11.trans s7)) (wc.same (s11.trans s7)).ws (w11.same s7) okC okS ⟨_, rfl, if_false_of rfl ?_⟩
      have s3y := (s3x.trans s11).trans s7
      have hr := Rd.same hr (s11.trans s7)
      have hc := hc.same (s11.trans s7)
      have hu := hu.same (s11.trans s7)
      generalize upd H11 b7 (.tup [.ref cx, .ref b6]) = H12 at s3y hr hc hu ⊢
      clear w11 s7 s11 wc s3x
      have ct : ∀ G, Same H12 G → CtxR G l (ca, (zs.take p, zs.drop (stopAt l zs p))) := fun G s => ⟨hc.same s, ic, Nat.le_trans lenC (by decide)⟩
      refine ⟨_, rfl, o, dx, _, rfl, s3y _ _ ho, rfl, _, rfl, r, _, _, _, rfl, rfl, .inl hr, rfl, o, ca, l, _, rfl, si3.ops.same s3y, si.no, si.eight, hc, fun H13 s13 => ?_⟩
      rw [ctxB_is si.nd si.no ic (by omega)]
      refine ⟨_, rfl, if_false_of rfl ?_⟩
      -- filled and replaced give the tree again
      have s3z := s3y.trans s13
      have hr3 := Rd.same hr s13
      have rz : resF (zs.take p, zs.drop (stopAt l zs p)) [] (some (ua, sub l zs p)) = zs := by
        show fill [(zs.take p, zs.drop (stopAt l zs p))] (sub l zs p) = zs
        rw [fill_cons, fill_nil]
        exact ez.symm
      refine ⟨_, rfl, o, dx, _, rfl, s3z _ _ ho, rfl, _, rfl, r, _, _, _, rfl, rfl, .inl hr3, rfl, _, rfl, r, _, _, _, rfl, rfl, .inl hr3, rfl, ?_⟩
      refine fillSp (mid := []) (z := some (ua, sub l zs p)) (si3.ops.same s3z) si.no si.nd si.eight (ct _ s13) (fun _ m => nomatch m) (fun e => nomatch e) (fun u e => ?_) (by decide) (fun _ x H14 s14 w14 _ => ?_) (fun h => absurd h (by rw [rz]; omega))
      · cases e
        exact ⟨hu.same s13, by show (sub l zs p).length ≤ 5000; omega, .inl fS⟩
      rw [rz] at w14
      refine ⟨_, rfl, neWs w14 (w3.same (s3z.trans s14)) okz ⟨_, rfl, if_false_of rfl ?_⟩⟩
      have s34 := s3z.trans s14
      have s24 := s13.trans s14
      have hr4 := Rd.same hr3 s14
      refine ⟨_, rfl, o, dx, _, rfl, s34 _ _ ho, rfl, _, rfl, _, rfl, _, rfl, r, _, _, _, rfl, rfl, .inl hr4, rfl, ?_⟩
      refine ⟨o, t, ua, l, zs, sub l zs p, p, rfl, tr _ s34, hp, ⟨si3.ops.same s34, hu.same s24, si.nd, fS, by omega, si.two⟩, fun _ x2 H15 s15 w15 => ?_, fun h => absurd h (by omega)⟩
      rw [← ez] at w15
      refine ⟨_, rfl, neWs w15 (w3.same (s34.trans s15)) okz ⟨_, rfl, if_false_of rfl ?_⟩⟩
      have s35 := s34.trans s15
      have s25 := s24.trans s15
      clear w14 w15 s34 s24 s3z hr3 hr4
      -- due
      have lA : (zs.take p).length = p := by rw [List.length_take]; omega
      have foD : Fo l 1 (zs.take p ++ (ys ++ zs.drop (stopAt l zs p))) := ic.put si.nd si.no foy
      have okD := si.ok foD
      have lenD : (zs.take p ++ (ys ++ zs.drop (stopAt l zs p))).length ≤ 50 := by
        rw [List.length_append, List.length_append, List.length_take, List.length_drop]
        omega
      obtain ⟨ag1, ag2, ag3⟩ := cut_again (a := zs.take p) (b := zs.drop (stopAt l zs p)) si.nd foy
      rw [lA] at ag1 ag2 ag3
      have posD : p < (zs.take p ++ (ys ++ zs.drop (stopAt l zs p))).length := by
        have := foy.len
        rw [List.length_append, List.length_append, lA]
        omega
      refine ⟨_, rfl, _, rfl, _, rfl, slTo (w3.same s35) fun b1 H16 s16 w16 => ?_⟩
      refine ⟨_, rfl, catWs w16 (wy3.same (s35.trans s16)) (by rw [List.length_take, sizeLine_eq]; omega) fun b2 H17 s17 w17 => ?_⟩
      refine ⟨_, rfl, _, rfl, _, rfl, noPart (slFrom (w3.same ((s35.trans s16).trans s17)) fun b3 H18 s18 w18 => ?_)⟩
      refine catWs (w17.same s18) w18 (by rw [List.length_append, List.length_take, List.length_drop, sizeLine_eq]; omega) fun du H19 s19 w19 => ?_
      rw [List.append_assoc] at w19
      have s39 := (((s35.trans s16).trans s17).trans s18).trans s19
      have s29 := (((s25.trans s16).trans s17).trans s18).trans s19
      clear w16 w17 w18 s16 s17 s18 s19 s35 s25
      have rd : resF (zs.take p, zs.drop (stopAt l zs p)) [] (some (ot, ys)) = zs.take p ++ (ys ++ zs.drop (stopAt l zs p)) := by
        show fill [(zs.take p, zs.drop (stopAt l zs p))] ys = _
        rw [fill_cons, fill_nil]
      refine ⟨_, rfl, o, dx, _, rfl, s39 _ _ ho, rfl, _, rfl, _, rfl, _, rfl, ?_⟩
      refine ⟨o, t, ot, l, zs, ys, p, rfl, tr _ s39, hp, try_ _ s39, fun _ x3 H20 s20 w20 => ?_, fun h => absurd h (by omega)⟩
      refine ⟨_, rfl, neWs w20 (w19.same s20) okD ⟨_, rfl, if_false_of rfl ?_⟩⟩
      have s40 := s39.trans s20
      have s30 := s29.trans s20
      refine ⟨_, rfl, o, dx, _, rfl, s40 _ _ ho, rfl, _, rfl, r, _, _, _, rfl, rfl, .inl (Rd.same hr s30), rfl, _, rfl, ?_⟩
      refine fillSp (mid := []) (z := some (ot, ys)) (si3.ops.same s40) si.no si.nd si.eight (ct _ s30) (fun _ m => nomatch m) (fun e => nomatch e) (fun u e => ?_) (by decide) (fun _ x4 H21 s21 w21 _ => ?_) (fun h => absurd h (by rw [rd]; omega))
      · cases e
        exact ⟨wy3.same s40, by show ys.length ≤ 5000; omega, .inl foy⟩
      rw [rd] at w21
      have w19 := w19.same (s20.trans s21)
      refine ⟨_, rfl, neWs w21 w19 okD ⟨_, rfl, if_false_of rfl ?_⟩⟩
      have s41 := s40.trans s21
      have s31 := s30.trans s21
      refine ⟨_, rfl, o, dx, _, rfl, s41 _ _ ho, rfl, _, rfl, o, du, l, _, rfl, si3.ops.same s41, w19, ?_⟩
      rw [treeB_is si.nd foD (by omega)]
      refine ⟨_, rfl, if_false_of rfl ?_⟩
      -- back
      refine ⟨_, rfl, o, dx, _, rfl, s41 _ _ ho, rfl, _, rfl, _, rfl, o, du, l, _, p, rfl, ⟨si3.ops.same s41, w19, si.nd, foD, by omega, si.two⟩, posD, fun r2 H22 s22 pr2 => ?_⟩
      obtain ⟨c2, u2, hr2, hc2, hu2⟩ := pr2
      rw [ag1, ag3] at hc2
      rw [ag2] at hu2
      have s32 := s31.trans s22
      have s42 := s41.trans s22
      refine ⟨_, rfl, _, rfl, r, _, _, _, rfl, rfl, .inl (Rd.same hr s32), rfl, _, rfl, by show 2 ≤ sizeLine; decide, fun b7 n7 => ?_⟩
      have s7 : Same H22 (upd H22 b7 (.tup [.ref ca, .ref ot])) := Same.new n7
      refine nePair (Rd.same hr2 s7) (.inl upd_same) (hc2.same s7).ws (hu2.same s7) (hc.same (s32.trans s7)).ws (wy3.same (s42.trans s7)) okC oky ⟨_, rfl, if_false_of rfl ?_⟩
      exact ⟨_, _, _, _, _, _, rfl, s3.trans (s42.trans s7)⟩
    · rintro σ H3 ⟨v5, v6, v7, v8, v9, v10, rfl, s3⟩
      exact fin H3 s3
end
end Pr
namespace Pr
open PySem PySem.Spec PyProof.Rows L2 Gd
/-! ### rows of contexts -/
/-- contexts one in the other, as one context -/
def jn (ks : List Cw) : Cw := (fillA ks, (revB ks).reverse)
theorem jn_fill {ks : List Cw} {v : List Str} : fill [jn ks] v = fill ks v := by
  rw [fill_cons, fill_nil]
  rfl
theorem jn_one {k : Cw} : jn [k] = k := by simp [jn, fillA, revB]
theorem jn_snoc {ks : List Cw} {k : Cw} : cxt (jn (ks ++ [k])).1 (jn (ks ++ [k])).2 = fill [jn ks] (cxt k.1 k.2) := by
  rw [fill_cons, fill_nil]
  unfold jn cxt
  rw [fillA_snoc, revB_snoc]
  simp
theorem fill_app {ks js : List Cw} {v : List Str} : fill ks (fill js v) = fill (ks ++ js) v := by
  induction ks with
  | nil => rw [fill_nil]; rfl
  | cons k ks ih => rw [fill_cons, ih, List.cons_append, fill_cons]
theorem IsC.one {l : List (Str × Nat)} {k : Cw} (h : IsC l k.1 k.2) : IsC l (jn [k]).1 (jn [k]).2 := by
  rw [jn_one]
  exact h
theorem IsC.snoc {l : List (Str × Nat)} (nd : (l.map (·.1)).Nodup) (no : hole ∉ l.map (·.1)) {ks : List Cw} {k : Cw} (h : IsC l (jn ks).1 (jn ks).2) (hk : IsC l k.1 k.2) : IsC l (jn (ks ++ [k])).1 (jn (ks ++ [k])).2 := by
  have e : jn (ks ++ [k]) = ((jn ks).1 ++ k.1, k.2 ++ (jn ks).2) := by
    unfold jn
    rw [fillA_snoc, revB_snoc]
    simp
  rw [e]
  exact h.putC nd no hk
theorem IsC.perm {l l0 : List (Str × Nat)} (pm : l.Perm l0) {a b : List Str} (h : IsC l0 a b) : IsC l a b := ⟨h.na, h.nb, Fo.perm (pm.append_right _) h.fo⟩
/-- a tree, or a context -/
def LK (l : List (Str × Nat)) (v : List Str) : Bool → Prop
  | true => Fo l 1 v
  | false => ∃ k : Cw, v = cxt k.1 k.2 ∧ IsC l k.1 k.2
theorem LK.put {l : List (Str × Nat)} (nd : (l.map (·.1)).Nodup) (no : hole ∉ l.map (·.1)) {v : List Str} {c : Cw} (ic : IsC l c.1 c.2) : ∀ {b : Bool}, LK l v b → LK l (c.1 ++ (v ++ c.2)) b
  | true, h => ic.put nd no h
  | false, ⟨k, e, h⟩ => ⟨(c.1 ++ k.1, k.2 ++ c.2), by rw [e]; unfold cxt; simp, ic.putC nd no h⟩
theorem LK.fill {l : List (Str × Nat)} (nd : (l.map (·.1)).Nodup) (no : hole ∉ l.map (·.1)) {v : List Str} {b : Bool} (h : LK l v b) : ∀ {ks : List Cw}, (∀ k ∈ ks, IsC l k.1 k.2) → LK l (Pr.fill ks v) b
  | [], _ => by
    rw [fill_nil]
    exact h
  | k :: ks, hk => by
    rw [fill_cons]
    exact LK.put nd no (hk k List.mem_cons_self) (LK.fill nd no h fun c m => hk c (List.mem_cons_of_mem _ m))
theorem LK.ok {H : Hp} {C d o ad : Addr} {l l0 : List (Str × Nat)} (si : Sit H C d o ad l l0) {v : List Str} : ∀ {b : Bool}, LK l v b → ∀ z ∈ v, PyData.strOk z = true
  | true, h => si.ok h
  | false, ⟨k, e, h⟩ => by
    rw [e]
    exact si.okH h.fo
theorem LK.tree {l : List (Str × Nat)} (nd : (l.map (·.1)).Nodup) (no : hole ∉ l.map (·.1)) {v : List Str} (few : v.length ≤ 5000) : ∀ {b : Bool}, LK l v b → treeB l v = b
  | true, h => treeB_is nd h few
  | false, ⟨k, e, h⟩ => by
    rw [e]
    exact treeB_ctx no
theorem LK.hole {l : List (Str × Nat)} (no : Pr.hole ∉ l.map (·.1)) {v : List Str} : ∀ {b : Bool}, LK l v b → inV (V.str Pr.hole) (v.map V.str) = !b
  | true, h => by
    show inV _ _ = false
    unfold inV
    rw [List.any_map, List.any_eq_false]
    intro z m e
    have e' : (z == Pr.hole) = true ∨ (Pr.hole == z) = true := .inl (by simpa [eqV] using e)
    rcases e' with e' | e'
    · rw [eq_of_beq e'] at m
      exact h.noH no m
    · rw [← eq_of_beq e'] at m
      exact h.noH no m
  | false, ⟨k, e, h⟩ => by
    show inV _ _ = true
    unfold inV
    rw [e, List.any_map, List.any_eq_true]
    exact ⟨Pr.hole, List.mem_append_right _ List.mem_cons_self, by simp [eqV]⟩
/-- such a thing at u -/
structure Lst (H : Hp) (l : List (Str × Nat)) (u : Addr) (v : List Str) (b : Bool) : Prop where
  ws : Ws H u v
  wp : b = false → Wp H u v
  lk : LK l v b
theorem Lst.same {H H' : Hp} {l : List (Str × Nat)} {u : Addr} {v : List Str} {b : Bool} (h : Lst H l u v b) (s : Same H H') : Lst H' l u v b := ⟨h.ws.same s, fun e => (h.wp e).same s, h.lk⟩
theorem Lst.kp {H H' : Hp} {d : Addr} {l : List (Str × Nat)} {u : Addr} {v : List Str} {b : Bool} (h : Lst H l u v b) (k : Kp d H H') (n : u ≠ d) : Lst H' l u v b := ⟨Rd.kp h.ws k n, fun e => (h.wp e).kp k n, h.lk⟩
theorem Lst.last {H : Hp} {l : List (Str × Nat)} {u : Addr} {v : List Str} {b : Bool} (h : Lst H l u v b) (few : v.length ≤ 5000) : LastR H l u v := by
  refine ⟨h.ws, few, ?_⟩
  cases b with
  | true => exact .inl h.lk
  | false =>
    obtain ⟨k, e, ic⟩ := h.lk
    have w := h.wp rfl
    rw [e] at w few
    exact .inr ⟨k.1, k.2, e, w, ic, few⟩
/-- a drawn context -/
structure Dr (H : Hp) (l : List (Str × Nat)) (d : Addr) (p : Addr × Cw) : Prop where
  wp : Wp H p.1 (cxt p.2.1 p.2.2)
  is : IsC l p.2.1 p.2.2
  few : (cxt p.2.1 p.2.2).length ≤ 10
  ne : p.1 ≠ d
theorem Dr.same {H H' : Hp} {l : List (Str × Nat)} {d : Addr} {p : Addr × Cw} (h : Dr H l d p) (s : Same H H') : Dr H' l d p := ⟨h.wp.same s, h.is, h.few, h.ne⟩
theorem Dr.kp {H H' : Hp} {l : List (Str × Nat)} {d : Addr} {p : Addr × Cw} (h : Dr H l d p) (k : Kp d H H') : Dr H' l d p := ⟨h.wp.kp k h.ne, h.is, h.few, h.ne⟩
theorem Dr.ctx {H : Hp} {l : List (Str × Nat)} {d : Addr} {p : Addr × Cw} (h : Dr H l d p) : CtxR H l p := ⟨h.wp, h.is, Nat.le_trans h.few (by decide)⟩
theorem fill_few {ks : List Cw} {v : List Str} {m : Nat} (h : ∀ k ∈ ks, (cxt k.1 k.2).length ≤ 10) (hm : ks.length ≤ m) : (fill ks v).length ≤ 10 * m + v.length := by
  rw [fill_len]
  have e : (ks.map fun c => c.1.length + c.2.length).sum ≤ 10 * ks.length := by
    clear hm
    induction ks with
    | nil => exact Nat.zero_le _
    | cons k ks ih =>
      have h1 := h k List.mem_cons_self
      have h2 := ih fun c m => h c (List.mem_cons_of_mem _ m)
      have lc : (cxt k.1 k.2).length = k.1.length + k.2.length + 1 := by
        unfold cxt
        rw [List.length_append, List.length_cons]
        omega
      rw [List.map_cons, List.sum_cons, List.length_cons]
      omega
  omega
theorem jn_few {ks : List Cw} {m : Nat} (h : ∀ k ∈ ks, (cxt k.1 k.2).length ≤ 10) (hm : ks.length ≤ m) : (cxt (jn ks).1 (jn ks).2).length ≤ 10 * m + 1 := by
  have e : cxt (jn ks).1 (jn ks).2 = fill ks [hole] := by simp [cxt, jn, fill]
  rw [e]
  exact fill_few (v := [hole]) h hm
end Pr
namespace Pr
open PySem PySem.Spec PyProof.Rows L2 Gd
theorem fillTwo {H : Hp} {C CT d o ad c u : Addr} {l l0 : List (Str × Nat)} {k : Cw} {v : List Str} {b : Bool} {Q : VK} {E : XK} (si : Sit H C d o ad l l0) (wc : Wp H c (cxt k.1 k.2)) (ic : IsC l k.1 k.2) (lk : (cxt k.1 k.2).length ≤ 5000) (la : Lst H l u v b) (lv : v.length ≤ 5000) (lr : (fill [k] v).length ≤ 5000)
    (q : ∀ r H', Same H H' → Ws H' r (fill [k] v) → (b = false → Wp H' r (fill [k] v)) → Q (.ref r) H') : spFill C CT [.ref o, .ref c, .ref u] H Q E := by
  refine fillSp (mid := []) (z := some (u, v)) (k := k) si.ops si.no si.nd si.eight ⟨wc, ic, lk⟩ (fun _ m => nomatch m) (fun e => nomatch e) (fun z e => ?_) (by decide) (fun _ r H' s w pl => q r H' s w fun eb => pl fun z e => ?_) (fun h => absurd h (by show ¬ 5000 < (fill [k] v).length; omega))
  · cases e
    exact la.last lv
  · cases e
    exact la.wp eb
theorem fillMany {H : Hp} {C CT d o ad c u : Addr} {l l0 : List (Str × Nat)} {k : Cw} {mid : List (Addr × Cw)} {v : List Str} {b : Bool} {Q : VK} {E : XK} (si : Sit H C d o ad l l0) (first : CtxR H l (c, k)) (mids : ∀ p ∈ mid, CtxR H l p) (sm : mid.length ≤ 1000) (la : Lst H l u v b) (lv : v.length ≤ 5000) (lr : (fill (k :: mid.map (·.2)) v).length ≤ 5000)
    (q : ∀ r H', Same H H' → Ws H' r (fill (k :: mid.map (·.2)) v) → Q (.ref r) H') : spFill C CT ([.ref o, .ref c] ++ ((mid.map fun p => refV p.1) ++ [.ref u])) H Q E := by
  refine fillSp (mid := mid) (z := some (u, v)) (k := k) si.ops si.no si.nd si.eight first mids (fun e => nomatch e) (fun z e => ?_) sm (fun _ r H' s w _ => q r H' s w) (fun h => absurd h (by show ¬ 5000 < (fill (k :: mid.map (·.2)) v).length; omega))
  cases e
  exact la.last lv
theorem fillNone {H : Hp} {C CT d o ad c : Addr} {l l0 : List (Str × Nat)} {k : Cw} {Q : VK} {E : XK} (si : Sit H C d o ad l l0) (first : CtxR H l (c, k)) (q : ∀ r H', Same H H' → Ws H' r (cxt k.1 k.2) → Q (.ref r) H') : spFill C CT [.ref o, .ref c] H Q E :=
  fillSp (mid := []) (z := none) (k := k) si.ops si.no si.nd si.eight first (fun _ m => nomatch m) (fun _ => rfl) (fun z e => nomatch e) (by decide) (fun _ r H' s w _ => q r H' s w) (fun h => absurd h (by have := first.few; show ¬ 5000 < (cxt k.1 k.2).length; have t : (cxt k.1 k.2).length ≤ 5000 := this; omega))
theorem Dr.lst {H : Hp} {l : List (Str × Nat)} {d : Addr} {p : Addr × Cw} (h : Dr H l d p) : Lst H l p.1 (cxt p.2.1 p.2.2) false := ⟨h.wp.ws, fun _ => h.wp, p.2, rfl, h.is⟩
theorem cutV_from {xs : List V} {p : Nat} : cutV xs (some (p : Int)) none = xs.drop p := by
  have i1 : HT.sIx xs.length 0 (some (p : Int)) = min p xs.length := HT.sIx_nat ..
  have i2 : HT.sIx xs.length xs.length none = xs.length := rfl
  unfold cutV
  rw [i1, i2]
  by_cases h : p ≤ xs.length
  · rw [Nat.min_eq_left h, List.take_of_length_le (by rw [List.length_drop]; omega)]
  · rw [Nat.min_eq_right (by omega), List.drop_of_length_le (Nat.le_refl _), List.drop_of_length_le (by omega), List.take_nil]
theorem cutV_mid {xs : List V} {p e : Nat} (hp : p ≤ xs.length) (he : e ≤ xs.length) : cutV xs (some (p : Int)) (some (e : Int)) = (xs.drop p).take (e - p) := by
  have i1 : HT.sIx xs.length 0 (some (p : Int)) = p := by rw [HT.sIx_nat, Nat.min_eq_left hp]
  have i2 : HT.sIx xs.length xs.length (some (e : Int)) = e := by rw [HT.sIx_nat, Nat.min_eq_left he]
  unfold cutV
  rw [i1, i2]
theorem isJ {l : List (Str × Nat)} (nd : (l.map (·.1)).Nodup) (no : hole ∉ l.map (·.1)) {ks : List Cw} (h : ∀ k ∈ ks, IsC l k.1 k.2) : ∀ {i : Nat}, i < ks.length → IsC l (jn (ks.take (i + 1))).1 (jn (ks.take (i + 1))).2
  | 0, hi => by
    have e : ks.take 1 = [ks[0]] := by
      rw [List.take_add_one, List.getElem?_eq_getElem hi]
      rfl
    rw [e]
    exact IsC.one (h _ (List.getElem_mem hi))
  | i + 1, hi => by
    have e : ks.take (i + 1 + 1) = ks.take (i + 1) ++ [ks[i + 1]] := by
      rw [List.take_add_one, List.getElem?_eq_getElem hi]
      rfl
    rw [e]
    exact IsC.snoc nd no (isJ nd no h (Nat.lt_of_succ_lt hi)) (h _ (List.getElem_mem hi))
/-- the first contexts, one in the other -/
def JW (ks : List (Addr × Cw)) (i : Nat) : Cw := jn ((ks.map (·.2)).take (i + 1))
structure Jn (H : Hp) (l : List (Str × Nat)) (a : Addr) (ks : List (Addr × Cw)) (i : Nat) : Prop where
  wp : Wp H a (cxt (JW ks i).1 (JW ks i).2)
  is : IsC l (JW ks i).1 (JW ks i).2
  few : (cxt (JW ks i).1 (JW ks i).2).length ≤ 41
theorem Jn.same {H H' : Hp} {l : List (Str × Nat)} {a : Addr} {ks : List (Addr × Cw)} {i : Nat} (h : Jn H l a ks i) (s : Same H H') : Jn H' l a ks i := ⟨h.wp.same s, h.is, h.few⟩
theorem Jn.ctx {H : Hp} {l : List (Str × Nat)} {a : Addr} {ks : List (Addr × Cw)} {i : Nat} (h : Jn H l a ks i) : CtxR H l (a, JW ks i) := ⟨h.wp, h.is, Nat.le_trans h.few (by decide)⟩
section
variable {H : Hp} {C CT d o ad : Addr} {l l0 : List (Str × Nat)} {ks : List (Addr × Cw)}
theorem jn_facts (si : Sit H C d o ad l l0) (each : ∀ p ∈ ks, Dr H l d p) (l4 : ks.length ≤ 4) {i : Nat} (hi : i < ks.length) : IsC l (JW ks i).1 (JW ks i).2 ∧ (cxt (JW ks i).1 (JW ks i).2).length ≤ 41 := by
  have e : ∀ k ∈ ks.map (·.2), IsC l k.1 k.2 ∧ (cxt k.1 k.2).length ≤ 10 := fun k m => by
    obtain ⟨p, hp, rfl⟩ := List.mem_map.mp m
    exact ⟨(each p hp).is, (each p hp).few⟩
  refine ⟨isJ si.nd si.no (fun k m => (e k m).1) (by rw [List.length_map]; exact hi), ?_⟩
  have h := jn_few (ks := (ks.map (·.2)).take (i + 1)) (m := 4) (fun k m => (e k (List.mem_of_mem_take m)).2) (by rw [List.length_take, List.length_map]; omega)
  exact Nat.le_trans h (by decide)
theorem jn_first (si : Sit H C d o ad l l0) (each : ∀ p ∈ ks, Dr H l d p) (l4 : ks.length ≤ 4) {p : Addr × Cw} (hp : ks[0]? = some p) : Jn H l p.1 ks 0 := by
  have hi := (List.getElem?_eq_some_iff.mp hp).1
  obtain ⟨h1, h2⟩ := jn_facts si each l4 hi
  refine ⟨?_, h1, h2⟩
  have e : JW ks 0 = p.2 := by
    unfold JW
    have e : (ks.map (·.2)).take (0 + 1) = [p.2] := by
      rw [List.take_add_one, List.getElem?_map, hp]
      rfl
    rw [e, jn_one]
  rw [e]
  exact (each p (List.mem_of_getElem? hp)).wp
/-- one context more -/
theorem jn_more {a : Addr} {Q : VK} {E : XK} (si : Sit H C d o ad l l0) (each : ∀ p ∈ ks, Dr H l d p) (l4 : ks.length ≤ 4) {i : Nat} {p : Addr × Cw} (hp : ks[i + 1]? = some p) (j : Jn H l a ks i) (q : ∀ r H', Same H H' → Jn H' l r ks (i + 1) → Q (.ref r) H') : spFill C CT [.ref o, .ref a, .ref p.1] H Q E := by
  have hi := (List.getElem?_eq_some_iff.mp hp).1
  have dp := each p (List.mem_of_getElem? hp)
  obtain ⟨h1, h2⟩ := jn_facts si each l4 hi
  have e : cxt (JW ks (i + 1)).1 (JW ks (i + 1)).2 = fill [JW ks i] (cxt p.2.1 p.2.2) := by
    unfold JW
    have e : (ks.map (·.2)).take (i + 1 + 1) = (ks.map (·.2)).take (i + 1) ++ [p.2] := by
      rw [List.take_add_one, List.getElem?_map, hp]
      rfl
    rw [e]
    exact jn_snoc
  refine fillTwo si j.wp j.is (Nat.le_trans j.few (by decide)) dp.lst (Nat.le_trans dp.few (by decide)) (by rw [← e]; exact Nat.le_trans h2 (by decide)) fun r H' s w pl => q r H' s ⟨?_, h1, h2⟩
  rw [e]
  exact pl rfl
end
end Pr
namespace Pr
open PySem PySem.Spec PyProof.Rows L2 Gd
/-! ### _law_row_right -/
theorem rev_get {α : Type} {f : α → V} {rest done : List α} {x : V} (h : (((rest ++ done).map f).reverse)[done.length]? = some x) : ∃ rest' p, rest = rest' ++ [p] ∧ x = f p := by
  rw [List.map_append, List.reverse_append, List.getElem?_append_right (by rw [List.length_reverse, List.length_map]; exact Nat.le_refl _), List.length_reverse, List.length_map, Nat.sub_self] at h
  rcases List.eq_nil_or_concat rest with rfl | ⟨r, p, rfl⟩
  · cases h
  · refine ⟨r, p, by rw [List.concat_eq_append], ?_⟩
    rw [List.concat_eq_append, List.map_append, List.reverse_append] at h
    exact (Option.some.inj h).symm
theorem Ws.ne {H : Hp} {a d : Addr} {zs : List Str} {xs : List V} (h : Ws H a zs) (e : H d = some (.lst xs)) : a ≠ d := fun z => by
  rcases h with h | ⟨ob, h⟩ <;> rw [z, e] at h <;> cases h
theorem Wp.updL {H : Hp} {a b : Addr} {zs : List Str} {xs : List V} {o : HO} (h : Wp H a zs) (e : H b = some (.lst xs)) : Wp (upd H b o) a zs := by
  obtain ⟨ob, at_, nod⟩ := h
  have ne : a ≠ b := fun z => by
    rw [z, e] at at_
    cases at_
  exact ⟨ob, by rw [upd_ne ne]; exact at_, nod⟩
theorem Dr.updL {H : Hp} {l : List (Str × Nat)} {d : Addr} {p : Addr × Cw} {b : Addr} {xs : List V} {o : HO} (h : Dr H l d p) (e : H b = some (.lst xs)) : Dr (upd H b o) l d p := ⟨h.wp.updL e, h.is, h.few, h.ne⟩
def spRowR (C : Addr) : Sp := fun vs H Q _ => ∃ (d o ad : Addr) (l l0 : List (Str × Nat)) (n : Nat), vs = [.ref d, .ref o, .ref ad] ∧ Sit H C d o ad l l0 ∧ Dice H d n ∧ n + 100 < 1000000 ∧ ∀ H', Kp d H H' → Dice H' d (n + 100) → Q (.bl true) H'
section
variable {P : Program} {w : World} {K : PySem.W.Frag} {mg : Str → Option Value} {base : Heap} {C fW fT fC fP fE fI fN : Addr} {dW dT dC dP dE dI dN : FuncData} {tk tk2 : Tok} {CT fL gD gE fX fY fU fR fF : Addr} {eD eE dX dY dU dR dF : FuncData} {qR qP qM : Addr} {zR zP zM : FuncData} {fV fZ : Addr} {dV dZ : FuncData}
abbrev nRow : List Str := ["dice", "ops", "arities", "row", "last", "due", "context", "told", "many", "first", "rest", "turn"]
theorem scRowR : FnScope ["dice", "ops", "arities", "row", "last", "due", "context", "told", "many", "first", "rest", "turn"] ["dice", "ops", "arities"] (defScope sRowR) := ⟨rfl, rfl, rfl, by decide +kernel, rfl, by decide +kernel, by decide +kernel⟩
theorem ok_rowR {f : Addr} {fd : FuncData} (F : Fun K "_law_row_right" "_law_row_right" sRowR f fd) (M : Ms K mg C fW fT fC fP fE fI fN dW dT dC dP dE dI dN tk) (U : Own1 K mg C CT fL tk2 gD gE fX fY fU fR fF eD eE dX dY dU dR dF) (D : Draws K mg qR qP qM zR zP zM) (T : Free mg)
    (FV : Fun K "_law_drawn_context" "_law_drawn_context" sDCtx fV dV) (bV : Binds K dV ["dice", "arities", "cap"] []) (gV : mg "_law_drawn_context" = some (.ref fV)) (FZ : Fun K "_law_put" "_law_put" sPut fZ dZ) (bZ : Binds K dZ ["context", "value"] []) (gZ : mg "_law_put" = some (.ref fZ)) :
    FnOk P w K mg base CX0 6 f fd ["dice", "ops", "arities"] (spRowR C) := by
  have GR : FnOk P w K mg base CX0 1 qR zR ["dice", "total"] spRoll := ok_roll D.FR T
  have GK : FnOk P w K mg base CX0 2 qP zP ["dice", "items"] (spPick K) := ok_pick D T
  have GD : FnOk P w K mg base CX0 3 gD eD ["dice", "arities", "cap"] spDrawn := ok_drawn U.FD D T
  have GV : FnOk P w K mg base CX0 4 fV dV ["dice", "arities", "cap"] spDCtx := ok_dctx FV D U.FD U.bD U.gD U.FE U.bE U.gE T
  have GZ : FnOk P w K mg base CX0 1 fZ dZ ["context", "value"] spPut := ok_put FZ T
  have GB : FnOk P w K mg base CX0 2 fT dT ["self", "value"] (spTreeB C) := ok_treeB M T
  have GF : FnR P w K mg base (L2.CX P w) 5 fF (spFill C CT) := (ok_fill U.F M U.x U.y U.gH U.L T).mono (by decide)
  refine F.ok scRowR (fun vs H Q E h => ?_) (fun cdv A outer s H vs Q E hr h => ?_)
  · obtain ⟨d, o, ad, l, l0, n, rfl, _⟩ := h
    rfl
  · obtain ⟨d, o, ad, l, l0, n, rfl, si, di, hn, q⟩ := h
    have hu := hr.units
    refine ⟨_, pss_cons (ps_setLc (i := 3) (own := [("turn", 11)]) (g := gName 11) (by rfl) scRowR.nd rfl rfl (sw_true rfl rfl rfl (by decide +kernel)) (pi_range1 rfl T.range (pa_cons (pe_op op_add pe_int (pe_call GR (hr.mono (by decide)) (by rfl) D.gR D.FR.kp D.bR .nil pass0 (pa_cons (pv 0) (pa_cons pe_int pa_nil)))) pa_nil)) (blkOk_by (own := [("turn", 11)]) (N := ["dice", "ops", "arities", "row", "last", "due", "context", "told", "many", "first", "rest", "turn"]) (sc := defScope sRowR) (by decide +kernel))
          (fun _ _ _ _ _ => pg_name (i := 11) scRowR.nd rfl (Or.inl rfl)) (fun _ _ _ _ _ => pts_nil) (fun _ _ _ _ _ => pe_call GV (hr.mono (by decide)) (by rfl) gV FV.kp bV .nil pass0 (pa_cons (pv 0) (pa_cons (pv 2) (pa_cons (pe_op op_add pe_int (pe_call GR (hr.mono (by decide)) (by rfl) D.gR D.FR.kp D.bR .nil pass0 (pa_cons (pv 0) (pa_cons pe_int pa_nil)))) pa_nil)))))
      (pss_cons (ps_set (i := 4) scRowR.nd rfl (.inl rfl) (pe_call GK (hr.mono (by decide)) (by rfl) D.gP D.FP.kp D.bP .nil pass0 (pa_cons (pv 0) (pa_cons (pe_lst (pa_cons (pe_call GD (hr.mono (by decide)) (by rfl) U.gD U.FD.kp U.bD .nil pass0 (pa_cons (pv 0) (pa_cons (pv 2) (pa_cons pe_int pa_nil)))) (pa_cons (pe_call GV (hr.mono (by decide)) (by rfl) gV FV.kp bV .nil pass0 (pa_cons (pv 0) (pa_cons (pv 2) (pa_cons pe_int pa_nil)))) pa_nil))) pa_nil))))
      (pss_cons (ps_set (i := 5) scRowR.nd rfl (.inl rfl) (pv 4))
      (pss_cons (ps_for PassesOwn.never rfl (pi_list (pe_revL (pv 3))) (pg_name (i := 6) scRowR.nd rfl (.inl rfl)) (pss_one (ps_set (i := 5) scRowR.nd rfl (.inl rfl) (pe_call GZ (hr.mono (by decide)) (by rfl) gZ FZ.kp bZ .nil pass0 (pa_cons (pv 6) (pa_cons (pv 5) pa_nil))))))
      (pss_cons (ps_par (i := 7) (j := 8) (by rfl) scRowR.nd rfl rfl (by decide) rfl rfl (pa_cons (pe_ix ix_list (pv 3) pe_int (fun _ _ => rfl)) (pa_cons (pe_op op_add (pe_call GR (hr.mono (by decide)) (by rfl) D.gR D.FR.kp D.bR .nil pass0 (pa_cons (pv 0) (pa_cons (pe_callB call_len_seq (by rfl) T.len PySem.boot_len (pa_cons (pv 3) pa_nil)) pa_nil))) pe_int) pa_nil)) (by rfl))
      (pss_cons (ps_for PassesOwn.never rfl (pi_list (pe_slice sl_list (pv 3) (po_some pe_int) po_none)) (pg_name (i := 6) scRowR.nd rfl (.inl rfl)) (pss_one (ps_set (i := 7) scRowR.nd rfl (.inl rfl) (pe_methR (pv 1) M.cf.cls U.m GF hr passL (pa_cons (pv 7) (pa_cons (pv 6) pa_nil))))))
      (pss_cons (ps_if (PW.pt (pw_or (pt_cmpR (op_neD hu) (pe_methR (pv 1) M.cf.cls U.m GF hr passL (pa_cons (pv 7) (pa_cons (pv 4) pa_nil))) (pv 5) (nomark _)) (pw_or1 (pt_cmpR (op_neD hu) (pe_methR (pv 1) M.cf.cls U.m GF hr passL (pa_cons (pv 7) pa_nil)) (pv 7) (nomark _))))) (pss_one (ps_ret pe_bl)) pss_nil)
      (pss_cons (ps_if (PW.pt (pw_and (pt_cmpR op_eq (pe_callB call_len_seq (by rfl) T.len PySem.boot_len (pa_cons (pv 3) pa_nil)) pe_int (nomark _)) (pw_and1 (pt_cmpR (op_neD hu) (pe_methR (pv 1) M.cf.cls U.m GF hr passL (pa_cons (pe_ix ix_list (pv 3) pe_int (fun _ _ => rfl)) (pa_cons (pv 4) pa_nil))) (pv 5) (nomark _))))) (pss_one (ps_ret pe_bl)) pss_nil)
      (pss_cons (ps_if (PW.pt (pw_and (pt_cmpR op_eq (pe_callB call_len_seq (by rfl) T.len PySem.boot_len (pa_cons (pv 3) pa_nil)) pe_int (nomark _)) (pw_and1 (pt_cmpR (op_neD hu) (pe_methR (pv 1) M.cf.cls U.m GF hr passL (pa_cons (pe_ix ix_list (pv 3) pe_int (fun _ _ => rfl)) (pa_cons (pe_ix ix_list (pv 3) pe_int (fun _ _ => rfl)) (pa_cons (pv 4) pa_nil)))) (pv 5) (nomark _))))) (pss_one (ps_ret pe_bl)) pss_nil)
      (pss_cons (ps_if (PW.pt (pw_and (pt_cmpR op_eq (pe_callB call_len_seq (by rfl) T.len PySem.boot_len (pa_cons (pv 3) pa_nil)) pe_int (nomark _)) (pw_and1 (pt_cmpR (op_neD hu) (pe_methR (pv 1) M.cf.cls U.m GF hr passL (pa_cons (pe_ix ix_list (pv 3) pe_int (fun _ _ => rfl)) (pa_cons (pe_ix ix_list (pv 3) pe_int (fun _ _ => rfl)) (pa_cons (pe_ix ix_list (pv 3) pe_int (fun _ _ => rfl)) (pa_cons (pv 4) pa_nil))))) (pv 5) (nomark _))))) (pss_one (ps_ret pe_bl)) pss_nil)
      (pss_cons (ps_set (i := 9) scRowR.nd rfl (.inl rfl) (pe_ix ix_list (pv 3) pe_int (fun _ _ => rfl)))
      (pss_cons (ps_for PassesOwn.never rfl (pi_list (pe_slice sl_list (pv 3) (po_some pe_int) (po_some (pv 8)))) (pg_name (i := 6) scRowR.nd rfl (.inl rfl)) (pss_one (ps_set (i := 9) scRowR.nd rfl (.inl rfl) (pe_methR (pv 1) M.cf.cls U.m GF hr passL (pa_cons (pv 9) (pa_cons (pv 6) pa_nil))))))
      (pss_cons (ps_set (i := 10) scRowR.nd rfl (.inl rfl) (pv 4))
      (pss_cons (ps_for PassesOwn.never rfl (pi_list (pe_revL (pe_slice sl_list (pv 3) (po_some (pv 8)) po_none))) (pg_name (i := 6) scRowR.nd rfl (.inl rfl)) (pss_one (ps_set (i := 10) scRowR.nd rfl (.inl rfl) (pe_methR (pv 1) M.cf.cls U.m GF hr passL (pa_cons (pv 6) (pa_cons (pv 10) pa_nil))))))
      (pss_one (ps_ret (pe_and (pe_cmpR (op_eqD hu) (pe_methR (pv 1) M.cf.cls U.m GF hr passL (pa_cons (pv 9) (pa_cons (pv 10) pa_nil))) (pv 5) (nomark _))
        (pe_one (pe_cmpR (op_eqD hu) (pe_meth (pv 1) M.cf.cls M.mT GB (hr.mono (by decide)) M.bT .nil pass0 (pa_cons (pv 5) pa_nil)) (pe_cmpR op_notIn_seq pe_str (pv 4) (by with_unfolding_all rfl)) (nomark _))))))))))))))))))), ?_⟩
    obtain ⟨ds, hd⟩ := di.there
    -- row
    refine ⟨_, rfl, d, 4, n, rfl, di, by omega, by decide, by decide, fun r o1 r0 r1 di1 => ?_⟩
    obtain ⟨rk, rfl⟩ := Int.eq_ofNat_of_zero_le r0
    have hrk : rk < 4 := by omega
    have k1 : Kp d H (upd H d o1) := Kp.upd
    have si1 := si.kp hd k1
    generalize upd H d o1 = H1 at di1 k1 si1 ⊢
    obtain ⟨ds1, hd1⟩ := di1.there
    refine ⟨_, _, rfl, rfl, _, rfl, by omega, by omega, fun Dr_ nD => ?_⟩
    have nDd : Dr_ ≠ d := fun e => by
      rw [e, hd1] at nD
      cases nD
    refine lc_range (lo := 0) (n := ((1 : Int) + (rk : Nat)).toNat) (fun i G => ∃ ks : List (Addr × Cw), G Dr_ = some (.lst (ks.map fun p => refV p.1)) ∧ ks.length = i ∧ Kp d H1 G ∧ Dice G d (n + 1 + 15 * i) ∧ ∀ p ∈ ks, Dr G l d p) ⟨[], upd_same, rfl, Kp.new nD, di1.same (Same.new nD), fun _ m => nomatch m⟩ ?_ ?_
    · rintro i G hi ⟨ks, eD, ln, kG, diG, each⟩
      have hi' : i < 4 := by omega
      have siG := si1.kp hd1 kG
      obtain ⟨dsG, hdG⟩ := diG.there
      refine ⟨rfl, _, rfl, _, rfl, _, rfl, d, 5, _, rfl, diG, by omega, by decide, by decide, fun r2 o2 r20 r21 di2 => ?_⟩
      obtain ⟨rk2, rfl⟩ := Int.eq_ofNat_of_zero_le r20
      have ecap : (1 : Int) + (rk2 : Nat) = ((rk2 + 1 : Nat) : Int) := by omega
      have k2 : Kp d G (upd G d o2) := Kp.upd
      have si2 := siG.kp hdG k2
      have eD2 := k2 _ _ nDd eD
      have each2 := fun p m => (each p m).kp k2
      have kG2 := kG.trans k2
      generalize upd G d o2 = G2 at di2 k2 si2 eD2 each2 kG2 ⊢
      refine ⟨_, _, rfl, rfl, d, ad, rk2 + 1, _, l0, by show [V.ref d, V.ref ad, V.int ((1 : Int) + (rk2 : Nat))] = _; rw [ecap], si2.nad, si2.had, si2.ars, si2.no0, by omega, by omega, di2, by omega, fun qa c H3 nq k3 wp ic len di3 => ?_⟩
      have eD3 := k3 _ _ nDd eD2
      have dr : Dr H3 l d (qa, c) := ⟨wp, ic.perm si.pm, by show (cxt c.1 c.2).length ≤ 10; omega, nq⟩
      refine ⟨_, eD3, by rw [List.length_map, sizeLine_eq]; omega, ks ++ [(qa, c)], ?_, by rw [List.length_append, ln]; rfl, fun b u nb e => ?_, ?_, fun p m => ?_⟩
      · rw [upd_same, List.map_append]
        rfl
      · rw [upd_ne (ne_of_none e nD)]
        exact (kG2.trans k3) b u nb e
      · refine (di3.more (by omega) (by omega)).kept fun o e => ?_
        rw [upd_ne nDd.symm]
        exact e
      · rcases List.mem_append.mp m with m | m
        · exact ((each2 p m).kp k3).updL eD3
        · rw [List.mem_singleton.mp m]
          exact dr.updL eD3
    · rintro G ⟨ks, eD, ln, kG, diG, each⟩
      have siG := si1.kp hd1 kG
      have kHG := k1.trans kG
      have lnk : 1 ≤ ks.length ∧ ks.length ≤ 4 := by omega
      have diG : Dice G d (n + 61) := diG.more (by omega) (by omega)
      clear kG k1 di1 hd1 si1 nD ln
      obtain ⟨dsG, hdG⟩ := diG.there
      -- last
      refine ⟨_, rfl, _, rfl, _, rfl, d, ad, 4, _, l0, rfl, siG.nad, siG.had, siG.ars, by decide, by decide, diG, by omega, fun t zs H2 ntd _ k2 ht fo0 lz di2 => ?_⟩
      obtain ⟨ds2, hd2⟩ := di2.there
      have si2 := siG.kp hdG k2
      have eD2 := k2 _ _ nDd eD
      have each2 := fun p m => (each p m).kp k2
      have kH2 := kHG.trans k2
      refine ⟨_, rfl, _, rfl, d, ad, 4, _, l0, rfl, si2.nad, si2.had, si2.ars, si2.no0, by decide, by decide, di2, by omega, fun cq c H3 ncq k3 wp3 ic0 len3 di3 => ?_⟩
      obtain ⟨ds3, hd3⟩ := di3.there
      have si3 := si2.kp hd2 k3
      have eD3 := k3 _ _ nDd eD2
      have each3 := fun p m => (each2 p m).kp k3
      have kH3 := kH2.trans k3
      have ht3 : Ws H3 t zs := Rd.kp (.inl ht) k3 ntd
      refine ⟨by show 2 ≤ sizeLine; decide, fun pl npl => ?_⟩
      have spl : Same H3 (upd H3 pl (.lst [.ref t, .ref cq])) := Same.new npl
      have npd : pl ≠ d := fun e => by
        rw [e, hd3] at npl
        cases npl
      refine ⟨d, pl, _, _, rfl, npd, .inl (SqL.of upd_same), (by simp), (by show 2 ≤ 1000; decide), di3.same spl, by omega, fun v o3 mv di4 => ?_⟩
      have k4 : Kp d H3 (upd (upd H3 pl (.lst [.ref t, .ref cq])) d o3) := (Kp.same spl).trans Kp.upd
      generalize upd (upd H3 pl (.lst [.ref t, .ref cq])) d o3 = H4 at di4 k4 ⊢
      have lst4 : ∃ (u : Addr) (vw : List Str) (b : Bool), v = .ref u ∧ Lst H4 l u vw b ∧ u ≠ d ∧ vw.length ≤ 10 := by
        rcases List.mem_cons.mp mv with rfl | mv
        · exact ⟨t, zs, true, rfl, Lst.kp ⟨ht3, (fun e => nomatch e), si.fo fo0⟩ k4 ntd, ntd, by omega⟩
        · rw [List.mem_singleton.mp mv]
          exact ⟨cq, cxt c.1 c.2, false, rfl, Lst.kp ⟨wp3.ws, fun _ => wp3, c, rfl, ic0.perm si.pm⟩ k4 ncq, ncq, by omega⟩
      obtain ⟨u, vw, b, rfl, la4, nud, lvw⟩ := lst4
      have si4 := si3.kp hd3 k4
      have eD4 := k4 _ _ nDd eD3
      have each4 := fun p m => (each3 p m).kp k4
      have kH4 := kH3.trans k4
      have di4 : Dice H4 d (n + 90) := di4.more (by omega) (by omega)
      clear mv k4 di3 hd3 si3 eD3 each3 kH3 ht3 spl npl di2 hd2 si2 eD2 each2 kH2 wp3 ic0 len3 k3 k2 ht fo0 lz diG hdG siG eD each kHG
      obtain ⟨ds4, hd4⟩ := di4.there
      -- due
      have fewW : ∀ done : List (Addr × Cw), (∀ p ∈ done, p ∈ ks) → done.length ≤ 4 → (fill (done.map (·.2)) vw).length ≤ 50 := fun done sub ld => by
        have h := fill_few (ks := done.map (·.2)) (v := vw) (m := 4) (fun k m => by
          obtain ⟨p, hp, rfl⟩ := List.mem_map.mp m
          exact (each4 p (sub p hp)).few) (by rw [List.length_map]; exact ld)
        omega
      refine ⟨_, rfl, _, rfl, Dr_, _, rfl, SqL.of eD4, fun rv nrv => ?_⟩
      have srv : Same H4 (upd H4 rv (.lst (ks.map fun p => refV p.1).reverse)) := Same.new nrv
      refine ⟨rv, rfl, ⟨_, SqL.of upd_same⟩, ?_⟩
      refine for_list (K := K) (a := rv) (xs := (ks.map fun p => refV p.1).reverse) (fun i σ H' => ∃ (rest done : List (Addr × Cw)) (a5 : Addr) (v6 : Option V), σ = [some (.ref d), some (.ref o), some (.ref ad), some (.ref Dr_), some (.ref u), some (.ref a5), v6, none, none, none, none, none] ∧
          ks = rest ++ done ∧ done.length = i ∧ Same H4 H' ∧ Ws H' a5 (fill (done.map (·.2)) vw) ∧ SqL K H' rv (ks.map fun p => refV p.1).reverse)
        ⟨ks, [], u, none, rfl, (List.append_nil _).symm, rfl, srv, by rw [List.map_nil, fill_nil]; exact la4.ws.same srv, SqL.of upd_same⟩ (fun i σ H' _ ⟨_, _, _, _, _, _, _, _, _, e⟩ => e) ?_ ?_
      · rintro i x σ H' hx ⟨rest, done, a5, v6, rfl, ek, ld, sm, w5, hrv⟩
        rw [← ld, ek] at hx
        obtain ⟨rest', p, er, rfl⟩ := rev_get hx
        have mp : p ∈ ks := by
          rw [ek, er]
          simp
        have sub : ∀ p ∈ done, p ∈ ks := fun p m => by
          rw [ek]
          exact List.mem_append_right _ m
        have ld4 : done.length ≤ 4 := by
          have := congrArg List.length ek
          rw [List.length_append] at this
          omega
        have dp := (each4 p mp).same sm
        have fw := fewW done sub ld4
        have lp := dp.few
        have lc : (cxt p.2.1 p.2.2).length = p.2.1.length + p.2.2.length + 1 := by
          unfold cxt
          rw [List.length_append, List.length_cons]
          omega
        refine ⟨_, rfl, _, rfl, p.1, a5, p.2, _, rfl, dp.wp, dp.is.na, w5, by rw [sizeLine_eq]; omega, fun q5 H5 s5 w6 => ?_⟩
        refine ⟨rest', p :: done, q5, _, rfl, by rw [ek, er]; simp, by rw [List.length_cons, ld], sm.trans s5, ?_, ?_⟩
        · rw [List.map_cons, fill_cons]
          exact w6
        · exact s5.seq hrv
      · rintro σ H' ⟨rest, done, a5, v6, rfl, ek, ld, sm, w5, _⟩
        rw [List.length_reverse, List.length_map] at ld
        have er : rest = [] := by
          have := congrArg List.length ek
          rw [List.length_append] at this
          exact List.length_eq_zero_iff.mp (by omega)
        rw [er, List.nil_append] at ek
        rw [← ek] at w5
        clear er ld ek rest done
        have di5 := di4.same sm
        obtain ⟨ds5, hd5⟩ := di5.there
        obtain ⟨k0, kt, rfl⟩ : ∃ k0 kt, ks = k0 :: kt := by
          cases ks with
          | nil => exact absurd lnk.1 (by decide)
          | cons a b => exact ⟨a, b, rfl⟩
        have eD5 := sm _ _ eD4
        have lnv : (((k0 :: kt).map fun p => refV p.1)).length = kt.length + 1 := by rw [List.length_map, List.length_cons]
        have lkt : kt.length ≤ 3 := by
          have := lnk.2
          rw [List.length_cons] at this
          omega
        have at0 : atI ((k0 :: kt).map fun p => refV p.1) 0 = some (.ref k0.1) := atI_nat (j := 0) rfl
        -- told, many
        refine ⟨_, rfl, Dr_, _, _, _, rfl, rfl, SqL.of eD5, at0, _, rfl, _, rfl, Dr_, _, rfl, .inl (SqL.of eD5), d, _, _, rfl, di5, by omega, by rw [lnv]; omega, by rw [lnv]; omega, fun r6 o6 r60 r61 di6 => ?_⟩
        obtain ⟨j, rfl⟩ := Int.eq_ofNat_of_zero_le r60
        rw [lnv] at r61
        have hj : j ≤ kt.length := by omega
        have k6 : Kp d H4 (upd H' d o6) := (Kp.same sm).trans Kp.upd
        have w6 : Ws (upd H' d o6) a5 (fill ((k0 :: kt).map (·.2)) vw) := Rd.kp w5 Kp.upd (w5.ne hd5)
        have la6 := la4.kp k6 nud
        have si6 := si4.kp hd4 k6
        have eD6 := k6 _ _ nDd eD4
        have each6 := fun p m => (each4 p m).kp k6
        have fin : ∀ G, Same (upd H' d o6) G → Q (.bl true) G := fun G sG => q G ((kH4.trans k6).trans (Kp.same sG)) ((di6.same sG).more (by omega) (by omega))
        generalize upd H' d o6 = H6 at w6 la6 si6 eD6 each6 fin di6 ⊢
        clear di6 di5 hd5 eD5 w5 di4 hd4 eD4 si4 each4 la4 kH4 k6 srv nrv sm
        refine ⟨_, _, rfl, rfl, _, _, rfl, ?_⟩
        have emany : ((j : Nat) : Int) + 1 = ((j + 1 : Nat) : Int) := by omega
        obtain ⟨dx, tn, ta, tl, ho, hn', ha⟩ := si6.ops.ex
        have l4 := lnk.2
        have okv := LK.ok si6 la6.lk
        have fewv : (fill ((k0 :: kt).map (·.2)) vw).length ≤ 50 := fewW _ (fun _ m => m) l4
        have isK : ∀ k ∈ (k0 :: kt).map (·.2), IsC l k.1 k.2 := fun k m => by
          obtain ⟨p, hp, rfl⟩ := List.mem_map.mp m
          exact (each6 p hp).is
        have lkd := la6.lk.fill si6.nd si6.no isK
        have okd := LK.ok si6 lkd
        -- told
        refine ⟨_, rfl, _, rfl, noPart ⟨Dr_, _, rfl, SqL.of eD6, fun sl nsl => ?_⟩⟩
        have esl : cutV ((k0 :: kt).map fun p => refV p.1) (some 1) none = kt.map fun p => refV p.1 := cutV_from (p := 1)
        rw [esl]
        have ssl : Same H6 (upd H6 sl (.lst (kt.map fun p => refV p.1))) := Same.new nsl
        refine ⟨sl, rfl, ⟨_, SqL.of upd_same⟩, ?_⟩
        refine for_list (K := K) (a := sl) (xs := kt.map fun p => refV p.1) (fun i σ H' => ∃ (tt : Addr) (v6 : Option V), σ = [some (.ref d), some (.ref o), some (.ref ad), some (.ref Dr_), some (.ref u), some (.ref a5), v6, some (.ref tt), some (.int ((j + 1 : Nat) : Int)), none, none, none] ∧ Same H6 H' ∧ Jn H' l tt (k0 :: kt) i ∧ SqL K H' sl (kt.map fun p => refV p.1))
          ⟨k0.1, _, by rw [← emany]; rfl, ssl, (jn_first si6 each6 l4 rfl).same ssl, SqL.of upd_same⟩ (fun i σ H' _ ⟨_, _, _, _, _, e⟩ => e) ?_ ?_
        · rintro i x σ H' hx ⟨tt, v6, rfl, sm, jt, hsl⟩
          rw [List.getElem?_map, Option.map_eq_some_iff] at hx
          obtain ⟨p, hp, rfl⟩ := hx
          refine ⟨_, rfl, o, dx, _, rfl, sm _ _ ho, rfl, _, rfl, _, rfl, ?_⟩
          refine jn_more (i := i) (si6.same sm) (fun p m => (each6 p m).same sm) l4 (p := p) hp jt fun r H'' s' j' => ?_
          exact ⟨r, _, rfl, sm.trans s', j', s'.seq hsl⟩
        · rintro σ H7 ⟨tt, v6, rfl, s7, jt, _⟩
          rw [List.length_map] at jt
          have eJ : JW (k0 :: kt) kt.length = jn ((k0 :: kt).map (·.2)) := by
            unfold JW
            rw [List.take_of_length_le (by rw [List.length_map, List.length_cons]; exact Nat.le_refl _)]
          have si7 := si6.same s7
          have la7 := la6.same s7
          refine ⟨_, rfl, o, dx, _, rfl, s7 _ _ ho, rfl, _, rfl, _, rfl, ?_⟩
          have eF : fill [JW (k0 :: kt) kt.length] vw = fill ((k0 :: kt).map (·.2)) vw := by rw [eJ, jn_fill]
          refine fillTwo si7 jt.wp jt.is (Nat.le_trans jt.few (by decide)) la7 (by omega) (by rw [eF]; omega) fun r8 H8 s8 w8 _ => ?_
          rw [eF] at w8
          have s68 := s7.trans s8
          refine ⟨_, rfl, neWs w8 (w6.same s68) okd ⟨_, rfl, if_false_of rfl ?_⟩⟩
          have jt8 := jt.same s8
          refine ⟨_, rfl, o, dx, _, rfl, s68 _ _ ho, rfl, _, rfl, ?_⟩
          refine fillNone (si6.same s68) jt8.ctx fun r9 H9 s9 w9 => ?_
          refine ⟨_, rfl, neWs w9 (jt8.same s9).wp.ws (si6.okH jt.is.fo) ⟨_, rfl, if_false_of rfl ?_⟩⟩
          have s69 := s68.trans s9
          clear w9 w8 s8 s9 jt8 jt s68 s7 si7 la7
          apply join (H := H9)
          · intro go
            refine ⟨_, rfl, Dr_, _, rfl, .inl (SqL.of (s69 _ _ eD6)), rfl, _, rfl, ?_⟩
            rw [lnv]
            by_cases c : kt.length = 0
            · have ek : kt = [] := List.length_eq_zero_iff.mp c
              refine if_true_of (decide_eq_true (congrArg V.int (by omega))) ?_
              refine ⟨_, rfl, o, dx, _, rfl, s69 _ _ ho, rfl, _, rfl, Dr_, _, _, _, rfl, rfl, SqL.of (s69 _ _ eD6), at0, _, rfl, ?_⟩
              have dp := (each6 k0 List.mem_cons_self).same s69
              have e1 : fill [k0.2] vw = fill ((k0 :: kt).map (·.2)) vw := by rw [ek]; rfl
              refine fillTwo (si6.same s69) dp.wp dp.is (Nat.le_trans dp.few (by decide)) (la6.same s69) (by omega) (by rw [e1]; omega) fun r9 G s9 w9 _ => ?_
              rw [e1] at w9
              exact ⟨_, rfl, neWs w9 (w6.same (s69.trans s9)) okd ⟨_, rfl, if_false_of rfl (go G s9)⟩⟩
            · exact if_false_of (decide_eq_false fun z => by have := V.int.inj z; omega) (if_false_of rfl (go H9 (Same.refl _)))
          intro G1 t1
          have u1 := s69.trans t1
          clear t1 s69
          apply join (H := G1)
          · intro go
            refine ⟨_, rfl, Dr_, _, rfl, .inl (SqL.of (u1 _ _ eD6)), rfl, _, rfl, ?_⟩
            rw [lnv]
            by_cases c : kt.length = 1
            · obtain ⟨k1, ek⟩ := List.length_eq_one_iff.mp c
              refine if_true_of (decide_eq_true (congrArg V.int (by omega))) ?_
              have at1 : atI ((k0 :: kt).map fun p => refV p.1) 1 = some (.ref k1.1) := by
                rw [ek]
                exact atI_nat (j := 1) rfl
              refine ⟨_, rfl, o, dx, _, rfl, u1 _ _ ho, rfl, _, rfl, Dr_, _, _, _, rfl, rfl, SqL.of (u1 _ _ eD6), at0, _, rfl, Dr_, _, _, _, rfl, rfl, SqL.of (u1 _ _ eD6), at1, _, rfl, ?_⟩
              have e1 : fill (k0.2 :: [k1].map (·.2)) vw = fill ((k0 :: kt).map (·.2)) vw := by rw [ek]; rfl
              refine fillMany (mid := [k1]) (si6.same u1) ((each6 k0 List.mem_cons_self).same u1).ctx (fun p m => ((each6 p (by rw [ek]; exact List.mem_cons_of_mem _ m)).same u1).ctx) (by show 1 ≤ 1000; decide) (la6.same u1) (by omega) (by rw [e1]; omega) fun r9 G s9 w9 => ?_
              rw [e1] at w9
              exact ⟨_, rfl, neWs w9 (w6.same (u1.trans s9)) okd ⟨_, rfl, if_false_of rfl (go G s9)⟩⟩
            · exact if_false_of (decide_eq_false fun z => by have := V.int.inj z; omega) (if_false_of rfl (go G1 (Same.refl _)))
          intro G2 t2
          have u2 := u1.trans t2
          clear t2 u1
          apply join (H := G2)
          · intro go
            refine ⟨_, rfl, Dr_, _, rfl, .inl (SqL.of (u2 _ _ eD6)), rfl, _, rfl, ?_⟩
            rw [lnv]
            by_cases c : kt.length = 2
            · obtain ⟨k1, k2, ek⟩ : ∃ k1 k2, kt = [k1, k2] := by
                match kt, c with
                | [k1, k2], _ => exact ⟨k1, k2, rfl⟩
              refine if_true_of (decide_eq_true (congrArg V.int (by omega))) ?_
              have at1 : atI ((k0 :: kt).map fun p => refV p.1) 1 = some (.ref k1.1) := by
                rw [ek]
                exact atI_nat (j := 1) rfl
              have at2 : atI ((k0 :: kt).map fun p => refV p.1) 2 = some (.ref k2.1) := by
                rw [ek]
                exact atI_nat (j := 2) rfl
              refine ⟨_, rfl, o, dx, _, rfl, u2 _ _ ho, rfl, _, rfl, Dr_, _, _, _, rfl, rfl, SqL.of (u2 _ _ eD6), at0, _, rfl, Dr_, _, _, _, rfl, rfl, SqL.of (u2 _ _ eD6), at1, _, rfl, Dr_, _, _, _, rfl, rfl, SqL.of (u2 _ _ eD6), at2, _, rfl, ?_⟩
              have e1 : fill (k0.2 :: [k1, k2].map (·.2)) vw = fill ((k0 :: kt).map (·.2)) vw := by rw [ek]; rfl
              refine fillMany (mid := [k1, k2]) (si6.same u2) ((each6 k0 List.mem_cons_self).same u2).ctx (fun p m => ((each6 p (by rw [ek]; exact List.mem_cons_of_mem _ m)).same u2).ctx) (by show 2 ≤ 1000; decide) (la6.same u2) (by omega) (by rw [e1]; omega) fun r9 G s9 w9 => ?_
              rw [e1] at w9
              exact ⟨_, rfl, neWs w9 (w6.same (u2.trans s9)) okd ⟨_, rfl, if_false_of rfl (go G s9)⟩⟩
            · exact if_false_of (decide_eq_false fun z => by have := V.int.inj z; omega) (if_false_of rfl (go G2 (Same.refl _)))
          intro G3 t3
          have u3 := u2.trans t3
          clear t3 u2
          -- first
          refine ⟨_, rfl, Dr_, _, _, _, rfl, rfl, SqL.of (u3 _ _ eD6), at0, ?_⟩
          refine ⟨_, rfl, _, rfl, _, rfl, _, rfl, Dr_, _, rfl, SqL.of (u3 _ _ eD6), fun s2 ns2 => ?_⟩
          have es2 : cutV ((k0 :: kt).map fun p => refV p.1) (some 1) (some ((j + 1 : Nat) : Int)) = (kt.take j).map fun p => refV p.1 := by
            have h := cutV_mid (xs := (k0 :: kt).map fun p => refV p.1) (p := 1) (e := j + 1) (by rw [lnv]; omega) (by rw [lnv]; omega)
            rw [show ((1 : Nat) : Int) = 1 from rfl] at h
            rw [h, List.map_cons, Nat.add_sub_cancel, List.drop_one, List.tail_cons, List.map_take]
          rw [es2]
          have ss2 : Same G3 (upd G3 s2 (.lst ((kt.take j).map fun p => refV p.1))) := Same.new ns2
          have v3 := u3.trans ss2
          refine ⟨s2, rfl, ⟨_, SqL.of upd_same⟩, ?_⟩
          refine for_list (K := K) (a := s2) (xs := (kt.take j).map fun p => refV p.1) (fun i σ H' => ∃ (ff : Addr) (v6 : Option V), σ = [some (.ref d), some (.ref o), some (.ref ad), some (.ref Dr_), some (.ref u), some (.ref a5), v6, some (.ref tt), some (.int ((j + 1 : Nat) : Int)), some (.ref ff), none, none] ∧ Same H6 H' ∧ Jn H' l ff (k0 :: kt) i ∧ SqL K H' s2 ((kt.take j).map fun p => refV p.1))
            ⟨k0.1, _, rfl, v3, (jn_first si6 each6 l4 rfl).same v3, SqL.of upd_same⟩ (fun i σ H' _ ⟨_, _, _, _, _, e⟩ => e) ?_ ?_
          · rintro i x σ H' hx ⟨ff, v6, rfl, sm, jt, hsl⟩
            rw [List.getElem?_map, Option.map_eq_some_iff] at hx
            obtain ⟨p, hp, rfl⟩ := hx
            rw [List.getElem?_take] at hp
            split at hp
            · refine ⟨_, rfl, o, dx, _, rfl, sm _ _ ho, rfl, _, rfl, _, rfl, ?_⟩
              refine jn_more (i := i) (si6.same sm) (fun p m => (each6 p m).same sm) l4 (p := p) hp jt fun r H'' s' j' => ?_
              exact ⟨r, _, rfl, sm.trans s', j', s'.seq hsl⟩
            · cases hp
          · rintro σ G4 ⟨ff, v6, rfl, u4, jf, _⟩
            have ltk : ((kt.take j).map fun p => refV p.1).length = j := by
              rw [List.length_map, List.length_take]
              omega
            rw [ltk] at jf
            -- rest
            refine ⟨_, rfl, _, rfl, _, rfl, _, rfl, noPart ⟨Dr_, _, rfl, SqL.of (u4 _ _ eD6), fun s3 ns3 => ⟨s3, _, rfl, SqL.of upd_same, fun rv2 nrv2 => ?_⟩⟩⟩
            have es3 : cutV ((k0 :: kt).map fun p => refV p.1) (some ((j + 1 : Nat) : Int)) none = ((k0 :: kt).drop (j + 1)).map fun p => refV p.1 := by rw [cutV_from, List.map_drop]
            rw [es3] at nrv2 ⊢
            have ss3 : Same G4 (upd G4 s3 (.lst (((k0 :: kt).drop (j + 1)).map fun p => refV p.1))) := Same.new ns3
            have v5 := (u4.trans ss3).trans (Same.new (o := .lst (((k0 :: kt).drop (j + 1)).map fun p => refV p.1).reverse) nrv2)
            have jf5 := jf.same (ss3.trans (Same.new (o := .lst (((k0 :: kt).drop (j + 1)).map fun p => refV p.1).reverse) nrv2))
            have lsq : SqL K (upd (upd G4 s3 (.lst (((k0 :: kt).drop (j + 1)).map fun p => refV p.1))) rv2 (.lst (((k0 :: kt).drop (j + 1)).map fun p => refV p.1).reverse)) rv2 (((k0 :: kt).drop (j + 1)).map fun p => refV p.1).reverse := SqL.of upd_same
            generalize upd (upd G4 s3 (.lst (((k0 :: kt).drop (j + 1)).map fun p => refV p.1))) rv2 (.lst (((k0 :: kt).drop (j + 1)).map fun p => refV p.1).reverse) = G5 at v5 jf5 lsq ⊢
            refine ⟨rv2, rfl, ⟨_, lsq⟩, ?_⟩
            refine for_list (K := K) (a := rv2) (xs := (((k0 :: kt).drop (j + 1)).map fun p => refV p.1).reverse) (fun i σ H' => ∃ (rest done : List (Addr × Cw)) (aa : Addr) (v6 : Option V), σ = [some (.ref d), some (.ref o), some (.ref ad), some (.ref Dr_), some (.ref u), some (.ref a5), v6, some (.ref tt), some (.int ((j + 1 : Nat) : Int)), some (.ref ff), some (.ref aa), none] ∧
                (k0 :: kt).drop (j + 1) = rest ++ done ∧ done.length = i ∧ Same G5 H' ∧ Lst H' l aa (fill (done.map (·.2)) vw) b ∧ SqL K H' rv2 (((k0 :: kt).drop (j + 1)).map fun p => refV p.1).reverse)
              ⟨(k0 :: kt).drop (j + 1), [], u, _, rfl, (List.append_nil _).symm, rfl, Same.refl G5, by rw [List.map_nil, fill_nil]; exact la6.same v5, lsq⟩ (fun i σ H' _ ⟨_, _, _, _, _, _, _, _, _, e⟩ => e) ?_ ?_
            · rintro i x σ H' hx ⟨rest, done, aa, v6, rfl, ek, ld, sm, lw, hrv⟩
              rw [← ld, ek] at hx
              obtain ⟨rest', p, er, rfl⟩ := rev_get hx
              have mem : ∀ p ∈ rest ++ done, p ∈ k0 :: kt := fun p m => List.mem_of_mem_drop (ek ▸ m)
              have mp : p ∈ k0 :: kt := mem p (by rw [er]; simp)
              have sub : ∀ p ∈ done, p ∈ k0 :: kt := fun p m => mem p (List.mem_append_right _ m)
              have ld4 : done.length + 1 ≤ 4 := by
                have := congrArg List.length ek
                rw [List.length_append, List.length_drop, er, List.length_append, List.length_cons] at this
                simp only [List.length_cons, List.length_nil] at this
                omega
              have v5' := v5.trans sm
              have dp := (each6 p mp).same v5'
              have fw := fewW done sub (by omega)
              have fw2 := fewW (p :: done) (fun c m => by
                rcases List.mem_cons.mp m with rfl | m
                · exact mp
                · exact sub c m) (by rw [List.length_cons]; omega)
              have ef : fill [p.2] (fill (done.map (·.2)) vw) = fill ((p :: done).map (·.2)) vw := by rw [fill_app]; rfl
              refine ⟨_, rfl, o, dx, _, rfl, v5' _ _ ho, rfl, _, rfl, _, rfl, ?_⟩
              refine fillTwo (si6.same v5') dp.wp dp.is (Nat.le_trans dp.few (by decide)) lw (by omega) (by rw [ef]; omega) fun r9 G s9 w9 pl => ?_
              rw [ef] at w9 pl
              refine ⟨rest', p :: done, r9, _, rfl, by rw [ek, er]; simp, by rw [List.length_cons, ld], sm.trans s9, ⟨w9, pl, ?_⟩, s9.seq hrv⟩
              rw [List.map_cons, fill_cons]
              exact LK.put si6.nd si6.no dp.is lw.lk
            · rintro σ H' ⟨rest, done, aa, v6, rfl, ek, ld, sm, lw, _⟩
              rw [List.length_reverse, List.length_map] at ld
              have er : rest = [] := by
                have := congrArg List.length ek
                rw [List.length_append] at this
                exact List.length_eq_zero_iff.mp (by omega)
              rw [er, List.nil_append] at ek
              rw [← ek] at lw
              have fw := fewW ((k0 :: kt).drop (j + 1)) (fun p m => List.mem_of_mem_drop m) (by rw [List.length_drop]; omega)
              have v6' := v5.trans sm
              have jf6 := jf5.same sm
              have ef : fill [JW (k0 :: kt) j] (fill (((k0 :: kt).drop (j + 1)).map (·.2)) vw) = fill ((k0 :: kt).map (·.2)) vw := by
                unfold JW
                rw [jn_fill, fill_app, List.map_drop, List.take_append_drop]
              refine ⟨_, rfl, o, dx, _, rfl, v6' _ _ ho, rfl, _, rfl, _, rfl, ?_⟩
              refine fillTwo (si6.same v6') jf6.wp jf6.is (Nat.le_trans jf6.few (by decide)) lw (by omega) (by rw [ef]; omega) fun r9 G s9 w9 _ => ?_
              rw [ef] at w9
              have v7 := v6'.trans s9
              refine ⟨_, rfl, eqWs w9 (w6.same v7) okd ⟨_, rfl, iteT ?_⟩⟩
              refine ⟨_, rfl, o, dx, _, rfl, v7 _ _ ho, rfl, _, rfl, o, a5, l, _, rfl, si6.ops.same v7, w6.same v7, ?_⟩
              rw [LK.tree si6.nd si6.no (by omega) lkd]
              refine ⟨_, rfl, u, _, rfl, .inr (.inl (la6.ws.same v7)), rfl, flat_strs, ?_⟩
              have eh : (!inV (V.str (Str.ofString "_")) (vw.map V.str)) = b := by
                have h : inV (V.str (Str.ofString "_")) (vw.map V.str) = !b := LK.hole si6.no la6.lk
                rw [h, Bool.not_not]
              rw [if_pos rfl, eh]
              exact eqAny (d := .bool b) (.bl b) (.bl b) (by cases b <;> decide +kernel) (fin G v7)
end
end Pr
namespace Pr
open PySem PySem.Spec PyProof.Rows L2 Gd
/-! ### a short tuple times a number -/
def rRepB (K : PySem.W.Frag) : R2 := fun x y H Q => ∃ (a : Addr) (m : Nat) (xs : List V), x = .ref a ∧ y = .int (m : Int) ∧ SqT K H a xs ∧ 1 ≤ xs.length ∧ xs.length ≤ 8 ∧ 2 ≤ m ∧ m ≤ 5000 ∧
  ∀ p, H p = none → Q (.ref p) (upd H p (.tup (List.replicate m xs).flatten))
theorem op_repB {X : Cx} : OpR X (binaryOp .Mult) (rRepB X.K) := by
  intro pins s σ H x y v u Q I rx ry h
  obtain ⟨a, m, xs, rfl, rfl, ht, x1, x8, m2, m5, q⟩ := h
  cases rx
  obtain ⟨tk, rfl⟩ := ry
  obtain ⟨us, rel, ⟨⟨ocl, odi, oda, osl⟩, hat, hcl, cnt, hda⟩, _⟩ := I.tuple ht
  dsimp only at hcl hda
  subst hcl hda
  have eu : us.length = xs.length := rel.length.symm
  have full : us.toArray.isEmpty = false := by
    cases us with
    | nil => exact absurd eu (by rw [List.length_nil]; omega)
    | cons _ _ => rfl
  have eus : us.toArray.size = xs.length := by rw [List.size_toArray, eu]
  have prod : xs.length * m ≤ 8 * 5000 := Nat.mul_le_mul x8 m5
  have prodI : ((us.toArray.size : Nat) : Int) * (m : Int) ≤ 40000 := by
    rw [eus]
    have e : ((xs.length : Nat) : Int) * (m : Int) = ((xs.length * m : Nat) : Int) := (Int.natCast_mul _ _).symm
    rw [e]
    omega
  have lenR : ∀ {α : Type} (ys : List α), ys.length = xs.length → (List.replicate m ys).flatten.length ≤ sizeLine := fun ys hy => by
    rw [PyProof.Rows.lm_len_rep_flat, hy, sizeLine_eq, Nat.mul_comm]
    omega
  have g0 : (decide ((m : Int) < -(2 ^ 63)) || decide ((m : Int) ≥ 2 ^ 63)) = false := by
    have h1 : decide ((m : Int) < -(2 ^ 63)) = false := decide_eq_false (by omega)
    have h2 : decide ((m : Int) ≥ 2 ^ 63) = false := decide_eq_false (by omega)
    rw [h1, h2]
    rfl
  have g1 : (us.toArray.isEmpty || (m : Int) == 1) = false := by
    have h1 : ((m : Int) == 1) = false := beq_eq_false_iff_ne.mpr (by omega)
    rw [full, h1]
    rfl
  have g2 : (decide ((m : Int) ≤ 0) || us.toArray.isEmpty) = false := by
    have h1 : decide ((m : Int) ≤ 0) = false := decide_eq_false (by omega)
    rw [full, h1]
    rfl
  have g4 : Builtin.Tuple.tupleTooMany (((us.toArray.size : Nat) : Int) * (m : Int)) = false := by
    unfold Builtin.Tuple.tupleTooMany
    exact decide_eq_false (by rw [sizeLine_eq]; omega)
  have times := tuple_mulW a us.toArray cnt odi osl (m : Int) tk g0 g1 g2 (by omega) g4 (by rw [size_rep, List.size_toArray, Int.toNat_natCast]; exact lenR us eu)
  have other := int_rmul_tuple (m : Int) tk a us.toArray cnt odi osl
  refine wpAny_binaryOp_repeat_ref (T := "tuple")
    (U := "int") (by decide) ⟨_, hat, rfl⟩
    (fun st => typeIs_int st (m : Int) tk)
    noFill_tuple_mul
    F.fills_int_mul F.slot_int_rmul
    repeat_tuple
    F.slot_int_index.lookup ?_
  refine call_meets F.slot_int_rmul (typeIs_int s (m : Int) tk)
    F.entry_int_rmul (F.args_int_rmul_2 _ _) other ⟨hat, rfl, ⟨_, hat, rfl⟩, ?_⟩
  refine call_meets F.slot_tuple_mul ⟨_, hat, rfl⟩
    F.entry_tuple_mul (F.args_tuple_mul_2 _ _) times ⟨hat, ?_⟩
  rw [size_rep, Int.toNat_natCast]
  have ok : ObjOk X.prog X.w (upd H s.heap.objs.size (.tup (List.replicate m xs).flatten)) (s.heap.push { cls := Value.type "tuple", data := Data.seq (List.replicate m us).flatten.toArray }) s.heap.objs.size (.tup (List.replicate m xs).flatten) :=
    ⟨lenR xs rfl, _, rel.rep m, IsTup.new _ _⟩
  exact ⟨.ref s.heap.objs.size, _, I.laid (t' := s.toks) (fun b ob e => Heap.get?_push_of_some _ e) (Nat.le_refl _) ok, rfl, q _ (I.hok.fresh (Nat.le_refl _))⟩
end Pr
namespace Pr
open PySem PySem.Spec PyProof.Rows L2 Gd
/-! ### the law -/
theorem run_fnRS {X : Cx} {pins : List (Addr × Obj)} {σ : L2.St} {H : Hp} {s : Shared} {CX : CXT} {k : Nat} {f : Addr} {sp : Sp} {E : L2.St → XK} {Q : VK} {us : List Value} {vs : List V} (F : FnR X.prog X.w X.K X.mg X.base CX k f sp) (hr : Room k X.A) (hx : PassesAt CX X σ (E σ)) (I : Inv X pins σ H s) (r : Vals vs us) (h : sp vs H Q (E σ)) :
    codeAny (model X.prog X.w) X.A (.call (.ref f) ⟨us, []⟩) (fun r s' => match r with | .ok (.ret v) => EP X pins σ Q v s' | .ok _ => False | .error e => X.xe e s') s := by
  refine codeAny_mono (F X.A X.stack s H us vs Q (E σ) hr I.env0 r h) fun r s' hq => ?_
  cases r with
  | error e => exact hx pins H s e s' I hq
  | ok fl =>
    cases fl with
    | ret u => exact I.after hq
    | next => exact False.elim hq
    | brk => exact False.elim hq
    | cont => exact False.elim hq
/-- a method call in a try -/
def tMethRS (C : Addr) (m : Str) (sp : Sp) (E : L2.St → XK) (ta : TE) (t : TA) : TE := fun σ H Q => ta σ H fun x H1 => ∃ a dx fs, x = .ref a ∧ H1 a = some (.ins C dx fs) ∧ fs.lookup m = none ∧ t σ H1 fun vs H2 => sp (x :: vs) H2 Q (E σ)
theorem pe_methRS {X : Cx} {CX : CXT} {k : Nat} {C f : Addr} {m : Str} {sp : Sp} {E : L2.St → XK} {o e : Expr} {es : List Expr} {ta : TE} {t : TA} {apos pos : Pos} {pl : Sem Bool} (he : PE X o ta) (c : Cls X.K C) (hm : Meth X.K C m f)
    (F : FnR X.prog X.w X.K X.mg X.base CX k f sp) (hr : Room k X.A) (hx : ∀ σ, PassesAt CX X σ (E σ)) (ha : PA X (e :: es) t)
    (hst : starEach (e :: es) X.env = (false, eval e X.env) :: starEach es X.env := by rfl) (hpl : (backTo pos (starEach es X.env)).any (·.1) = false := by rfl)
    (ht : eval (.Call (.Attribute o m apos) (e :: es) [] pos) X.env = (do
      let ov ← eval o X.env
      standAt apos.atName
      let (f, first) ← holding [ov] (getMethod ov m pl)
      callWith pos f first (backTo pos (starEach (e :: es) X.env)) (backToKw pos (keywordEach [] X.env))) := by rfl) :
    PE X (.Call (.Attribute o m apos) (e :: es) [] pos) (tMethRS C m sp E ta t) := by
  refine ⟨fun pins s σ H Q I h => ?_⟩
  refine PySem.W.methodCall_KW (pl := pl) (thn (he.run pins s σ H _ I h) fun u s1 ⟨x, H1, I1, rx, a, dx, fs, ex, ea, l, q⟩ => ?_) ht
  subst ex
  obtain rfl : u = Value.ref a := rx
  refine getmeth_ok I1 ea c hm l ?_
  refine PySem.W.callWith_K (first := [.ref a]) (h₀ := X.base) I.ok.mod.kin hm.kp (thn (ha.run pos pins s1 σ H1 _ I1 q) fun us s2 ⟨vs, H2, I2, r, q2⟩ => ⟨I2.kIn, ?_⟩) hst hpl
  exact wpAny_call (run_fnRS (us := .ref a :: us) (vs := .ref a :: vs) F hr (hx σ) I2 (.cons rfl r) q2)
def spLaw (K : PySem.W.Frag) : Sp := fun vs H Q _ => ∃ (a : Addr) (ns : List Int), vs = [.ref a] ∧ SqL K H a (ns.map V.int) ∧ ns.length ≤ 63 ∧ ∀ H', Q (.bl true) H'
theorem scLaw : FnScope ["script", "spot", "dice", "arities", "ops", "turn", "tree", "long", "told", "part", "error", "some"] ["script"] (defScope sLaw) := ⟨rfl, rfl, rfl, by decide +kernel, rfl, by decide +kernel, by decide +kernel⟩
def spots (n : Int) : Int := if (if n < 4 then n else 4) > 1 then (if n < 4 then n else 4) else 1
def wl : List (Str × Nat) := [("c", 0), ("s", 1), ("p", 2)]
theorem wl_nd : (wl.map (·.1)).Nodup := by decide +kernel
theorem wl_ok : OpsOk wl := ⟨by decide +kernel, wl_nd, by decide +kernel, by decide +kernel⟩
theorem wl_no : hole ∉ wl.map (·.1) := by decide +kernel
theorem rep_flat : ∀ n : Nat, (List.replicate n [V.str "s"]).flatten = (List.replicate n ("s" : Str)).map V.str
  | 0 => rfl
  | n + 1 => by rw [List.replicate_succ, List.flatten_cons, rep_flat n, List.replicate_succ]; rfl
theorem c0_few : (cxt ([] : List Str) []).length ≤ 5000 := by decide
theorem cp_few : (cxt [("p" : Str)] ["c"]).length ≤ 5000 := by decide
theorem c1_few : [("c" : Str)].length ≤ 5000 := by decide
theorem f0_few : ¬ 5000 < (fill [(([] : List Str), ([] : List Str)), ([], [])] [("c" : Str)]).length := by decide
theorem f1_few : ¬ 5000 < (fill [([("p" : Str)], [("c" : Str)]), (["p"], ["c"])] [("c" : Str)]).length := by decide
theorem fo_rep {l : List (Str × Nat)} (m : (("s" : Str), 1) ∈ l) {zs : List Str} (f : Fo l 1 zs) : ∀ n : Nat, Fo l 1 (List.replicate n ("s" : Str) ++ zs)
  | 0 => f
  | n + 1 => by
    rw [List.replicate_succ, List.cons_append]
    exact .cons (n := 0) m (fo_rep m f n)
theorem no_rep {n : Nat} : hole ∉ List.replicate n ("s" : Str) := fun m => by
  have e := List.eq_of_mem_replicate m
  exact absurd e (by decide +kernel)
theorem stop_again {l : List (Str × Nat)} (nd : (l.map (·.1)).Nodup) {a ys b : List Str} (f : Fo l 1 ys) : stopAt l (a ++ (ys ++ b)) a.length = a.length + ys.length := by
  have d : (a ++ (ys ++ b)).drop a.length = ys ++ b := by simp
  show a.length + ext l ((a ++ (ys ++ b)).drop a.length) 1 = _
  rw [d, ext_len nd f]
theorem spots_le (n : Int) : 1 ≤ spots n ∧ spots n ≤ 4 := by
  unfold spots
  split <;> split <;> omega
structure Own2 (K : PySem.W.Frag) (mg : Str → Option Value) (C CT : Addr) (h1 h2 h3 h4 h5 h6 h7 h8 h9 : Addr) (x1 x2 x3 x4 x5 x6 x7 x8 x9 : FuncData) (t1 t2 : Tok) : Prop where
  FD : Fun K "_law_dice" "_law_dice" sDice h1 x1
  bD : Binds K x1 ["script", "spot"] []
  gD : mg "_law_dice" = some (.ref h1)
  FA : Fun K "_law_arities" "_law_arities" sArs h2 x2
  bA : Binds K x2 ["dice"] []
  gA : mg "_law_arities" = some (.ref h2)
  FV : Fun K "_law_drawn_context" "_law_drawn_context" sDCtx h3 x3
  bV : Binds K x3 ["dice", "arities", "cap"] []
  gV : mg "_law_drawn_context" = some (.ref h3)
  FZ : Fun K "_law_put" "_law_put" sPut h4 x4
  bZ : Binds K x4 ["context", "value"] []
  gZ : mg "_law_put" = some (.ref h4)
  FT : Fun K "_law_tree_right" "_law_tree_right" sTreeR h5 x5
  bT : Binds K x5 ["dice", "ops", "arities", "tree"] []
  gT : mg "_law_tree_right" = some (.ref h5)
  FR : Fun K "_law_row_right" "_law_row_right" sRowR h6 x6
  bR : Binds K x6 ["dice", "ops", "arities"] []
  gR : mg "_law_row_right" = some (.ref h6)
  mkO : Mk K C h7
  gC : mg "Operators" = some (.ref C)
  FI : Fun K "__init__" "Operators.__init__" mInit h7 x7
  bI : Binds K x7 ["self", "arities"] []
  FE : Fun K "are_arities" "are_arities" sAre h8 x8
  bE : Binds K x8 ["value"] []
  gE : mg "are_arities" = some (.ref h8)
  FN : Fun K "is_name" "is_name" sName h9 x9
  bN : Binds K x9 ["value"] []
  gN : mg "is_name" = some (.ref h9)
  gm : mg "MAX_LETTERS" = some (.int 8 t1)
  gm2 : mg "MAX_OPERATORS" = some (.int 8 t2)
  te : PySem.W.exmOne K (.ref CT) (.ref CT) = some true
section
variable {P : Program} {w : World} {K : PySem.W.Frag} {mg : Str → Option Value} {base : Heap} {C fW fT fC fP fE fI fN : Addr} {dW dT dC dP dE dI dN : FuncData} {tk tk2 : Tok} {CT fL gD gE fX fY fU fR fF : Addr} {eD eE dX dY dU dR dF : FuncData} {qR qP qM : Addr} {zR zP zM : FuncData}
  {h1 h2 h3 h4 h5 h6 h7 h8 h9 : Addr} {x1 x2 x3 x4 x5 x6 x7 x8 x9 : FuncData} {t1 t2 : Tok}
def tb1 (K : PySem.W.Frag) (C CT : Addr) (W : WX) : TS := tDrop (tBM K "list" rAppend (tVar 8) (tCons (tCB (rLenK K) (tCons (tMethRS C "filled" (spFill C CT) (WE W) (tVar 4) (tCons (tVar 7) (tCons (tVar 7) (tCons (tVar 9) tNil)))) tNil)) tNil))
def tb2 (K : PySem.W.Frag) (C CT : Addr) (W : WX) : TS := tDrop (tBM K "list" rAppend (tVar 8) (tCons (tCB (rLenK K) (tCons (tMethRS C "replaced" (spRepl C CT) (WE W) (tVar 4) (tCons (tOp (Tx.rCatY K) (tOp (rRepB K) (tTup (tCons (tC (.str "s")) tNil)) (tC (.int 4998))) (Tx.tTupX (tCons (tC (.str "c")) tNil))) (tCons (tC (.int 4998)) (tCons (tTup (tCons (tC (.str "p")) (tCons (tC (.str "c")) (tCons (tC (.str "c")) tNil)))) tNil)))) tNil)) tNil))
def tsu (K : PySem.W.Frag) (CT : Addr) : Addr → Value → Option Addr → TS := fun a cls d => tDrop (tBM K "list" rAppend (tVar 8) (tCons (tByTmny CT a cls d (tVar 10)) tNil))
theorem ok_law {f : Addr} {fd : FuncData} (F : Fun K "law" "law" sLaw f fd) (M : Ms K mg C fW fT fC fP fE fI fN dW dT dC dP dE dI dN tk) (U : Own1 K mg C CT fL tk2 gD gE fX fY fU fR fF eD eE dX dY dU dR dF) (O : Own2 K mg C CT h1 h2 h3 h4 h5 h6 h7 h8 h9 x1 x2 x3 x4 x5 x6 x7 x8 x9 t1 t2) (D : Draws K mg qR qP qM zR zP zM) (T : Free mg) :
    FnOk P w K mg base CX0 7 f fd ["script"] (spLaw K) := by
  have GD : FnOk P w K mg base CX0 1 h1 x1 ["script", "spot"] (spDice K) := ok_dice O.FD T
  have GR : FnOk P w K mg base CX0 1 qR zR ["dice", "total"] spRoll := ok_roll D.FR T
  have GA : FnOk P w K mg base CX0 3 h2 x2 ["dice"] spArs := ok_ars O.FA D T
  have GW : FnOk P w K mg base CX0 3 gD eD ["dice", "arities", "cap"] spDrawn := ok_drawn U.FD D T
  have GT : FnOk P w K mg base CX0 6 h5 x5 ["dice", "ops", "arities", "tree"] (spTreeR C) := ok_treeR O.FT M U D T
  have GO : FnOk P w K mg base CX0 6 h6 x6 ["dice", "ops", "arities"] (spRowR C) := ok_rowR O.FR M U D T O.FV O.bV O.gV O.FZ O.bZ O.gZ
  have GE : FnOk P w K mg base CX0 2 h8 x8 ["value"] spAre := ok_are O.FE T O.gm O.gm2 O.FN O.bN O.gN M.FI M.bI M.gI
  have GI : FnOk P w K mg base CX0 3 h7 x7 ["self", "arities"] (spInit C) := ok_init O.FI T M.cf GE O.FE O.bE O.gE
  have GP : FnOk P w K mg base (L2.CX P w) 5 fR dR ["self", "tree", "place", "other"] (spRepl C CT) := ok_repl U.r.F M U.L T
  have GF : FnR P w K mg base (L2.CX P w) 5 fF (spFill C CT) := (ok_fill U.F M U.x U.y U.gH U.L T).mono (by decide)
  have GQ : FnR P w K mg base (L2.CX P w) 5 fR (spRepl C CT) := (GP.raw U.r.b .nil).imp fun vs H Q E h => by rw [List.append_nil]; exact h
  refine F.ok scLaw (fun vs H Q E h => ?_) (fun cdv A0 outer s H vs Q E hr h => ?_)
  · obtain ⟨a, ns, rfl, _⟩ := h
    rfl
  · obtain ⟨a, ns, rfl, hS, hlen, q⟩ := h
    have fin := q
    have hu := hr.units
    refine ⟨_, pss_cons (ps_for PassesOwn.never rfl (pi_range1 rfl T.range (pa_cons (pe_callB (call_max2 rfl) (by rfl) T.max (by decide +kernel) (pa_cons pe_int (pa_cons (pe_callB (call_min2 rfl) (by rfl) T.min (by decide +kernel) (pa_cons pe_int (pa_cons (pe_callB call_len_seq (by rfl) T.len PySem.boot_len (pa_cons (pv 0) pa_nil)) pa_nil))) pa_nil))) pa_nil)) (pg_name (i := 1) scLaw.nd rfl (.inl rfl))
        (pss_cons (ps_set (i := 2) scLaw.nd rfl (.inl rfl) (pe_call GD (hr.mono (by decide)) (by rfl) O.gD O.FD.kp O.bD .nil pass0 (pa_cons (pv 0) (pa_cons (pv 1) pa_nil))))
        (pss_cons (ps_set (i := 3) scLaw.nd rfl (.inl rfl) (pe_call GA (hr.mono (by decide)) (by rfl) O.gA O.FA.kp O.bA .nil pass0 (pa_cons (pv 2) pa_nil)))
        (pss_cons (ps_set (i := 4) scLaw.nd rfl (.inl rfl) (pe_make O.mkO GI (hr.mono (by decide)) (by rfl) O.gC O.bI .nil pass0 (pa_cons (pv 3) pa_nil)))
        (pss_one (ps_for PassesOwn.never rfl (pi_range1 rfl T.range (pa_cons pe_int pa_nil)) (pg_name (i := 5) scLaw.nd rfl (.inl rfl))
          (pss_cons (ps_set (i := 6) scLaw.nd rfl (.inl rfl) (pe_call GW (hr.mono (by decide)) (by rfl) U.gD U.FD.kp U.bD .nil pass0 (pa_cons (pv 2) (pa_cons (pv 3) (pa_cons (pe_op op_add pe_int (pe_call GR (hr.mono (by decide)) (by rfl) D.gR D.FR.kp D.bR .nil pass0 (pa_cons (pv 2) (pa_cons pe_int pa_nil)))) pa_nil)))))
          (pss_one (ps_if (PW.pt (pw_or (pt_not (pt_val (pe_call GT hr (by rfl) O.gT O.FT.kp O.bT .nil pass0 (pa_cons (pv 2) (pa_cons (pv 4) (pa_cons (pv 3) (pa_cons (pv 6) pa_nil))))))) (pw_or1 (pt_not (pt_val (pe_call GO hr (by rfl) O.gR O.FR.kp O.bR .nil pass0 (pa_cons (pv 2) (pa_cons (pv 4) (pa_cons (pv 3) pa_nil)))))))))
            (pss_one (ps_ret pe_bl)) pss_nil)))))))))
      (pss_cons (ps_set (i := 4) scLaw.nd rfl (.inl rfl) (pe_make O.mkO GI (hr.mono (by decide)) (by rfl) O.gC O.bI .nil pass0 (pa_cons (pe_disp (pps_cons pe_str pe_int (pps_cons pe_str pe_int (pps_cons pe_str pe_int pps_nil))) (by rfl) (by rfl) (fun z => by cases z) (by decide)) pa_nil)))
      (pss_cons (ps_par (i := 7) (j := 8) (by rfl) scLaw.nd rfl rfl (by decide) rfl rfl (pa_cons (pe_op Tx.op_catY (pe_op op_repB (pe_tup (pa_cons pe_str pa_nil)) pe_int) (Tx.pe_tupX (pa_cons pe_str pa_nil))) (pa_cons (pe_lst pa_nil) pa_nil)) (by rfl))
      (pss_cons (ps_for PassesOwn.never rfl (pi_list (pe_lst (pa_cons (pe_tup (pa_cons pe_str (pa_cons pe_str pa_nil))) (pa_cons (pe_tup (pa_cons pe_str pa_nil)) (pa_cons (pe_tup (pa_cons pe_str (pa_cons pe_str (pa_cons pe_str pa_nil)))) pa_nil))))) (pg_name (i := 9) scLaw.nd rfl (.inl rfl))
        (pss_one (ps_try_as (i := 10) (tb := tb1 K C CT) (ts := tsu K CT) (Wout := fun _ _ _ _ => False) rfl rfl scLaw.nd rfl rfl ⟨rfl, by decide, Or.inl U.L.gC⟩ takes0
          (fun W' pn xe tk _ => pss_one (ps_expr (by exact (pe_bm PySem.F.plainAttrs_list PySem.F.slot_list_append PySem.F.type_list_append mt_append (pv 8) (pa_cons (pe_callB (call_len_seqK (K := K) rfl) (by rfl) T.len PySem.boot_len (pa_cons (pe_methRS (pv 4) M.cf.cls U.m GF (hr.mono (by decide)) (fun σ => passAt tk σ) (pa_cons (pv 7) (pa_cons (pv 7) (pa_cons (pv 9) pa_nil)))) pa_nil)) pa_nil)))))
          (fun a oe cls d pn hz hf => pss_one (ps_expr (by exact (pe_bm PySem.F.plainAttrs_list PySem.F.slot_list_append PySem.F.type_list_append mt_append (pv 8) (pa_cons (pe_byTmny U.L hz hf (pv 10)) pa_nil))))))))
      (pss_cons (ps_try_as (i := 10) (tb := tb2 K C CT) (ts := tsu K CT) (Wout := fun _ _ _ _ => False) rfl rfl scLaw.nd rfl rfl ⟨rfl, by decide, Or.inl U.L.gC⟩ takes0
          (fun W' pn xe tk _ => pss_one (ps_expr (by exact (pe_bm PySem.F.plainAttrs_list PySem.F.slot_list_append PySem.F.type_list_append mt_append (pv 8) (pa_cons (pe_callB (call_len_seqK (K := K) rfl) (by rfl) T.len PySem.boot_len (pa_cons (pe_methRS (pv 4) M.cf.cls U.r.m GQ (hr.mono (by decide)) (fun σ => passAt tk σ) (pa_cons (pe_op Tx.op_catY (pe_op op_repB (pe_tup (pa_cons pe_str pa_nil)) pe_int) (Tx.pe_tupX (pa_cons pe_str pa_nil))) (pa_cons pe_int (pa_cons (pe_tup (pa_cons pe_str (pa_cons pe_str (pa_cons pe_str pa_nil)))) pa_nil)))) pa_nil)) pa_nil)))))
          (fun a oe cls d pn hz hf => pss_one (ps_expr (by exact (pe_bm PySem.F.plainAttrs_list PySem.F.slot_list_append PySem.F.type_list_append mt_append (pv 8) (pa_cons (pe_byTmny U.L hz hf (pv 10)) pa_nil))))))
      (pss_cons (ps_set (i := 11) scLaw.nd rfl (.inl rfl) (pe_lst (pa_cons (pe_methR (pv 4) M.cf.cls U.m GF (hr.mono (by decide)) passL (pa_cons (Tx.pe_tupX (pa_cons pe_str pa_nil)) pa_nil)) (pa_cons (pe_methR (pv 4) M.cf.cls U.m GF (hr.mono (by decide)) passL (pa_cons (Tx.pe_tupX (pa_cons pe_str pa_nil)) (pa_cons (Tx.pe_tupX (pa_cons pe_str pa_nil)) (pa_cons (Tx.pe_tupX (pa_cons pe_str pa_nil)) pa_nil)))) pa_nil))))
      (pss_cons (ps_expr (pe_bm PySem.F.plainAttrs_list PySem.F.slot_list_append PySem.F.type_list_append mt_append (pv 11) (pa_cons (pe_methR (pv 4) M.cf.cls U.m GF (hr.mono (by decide)) passL (pa_cons (Tx.pe_tupX (pa_cons pe_str (pa_cons pe_str (pa_cons pe_str pa_nil)))) (pa_cons (Tx.pe_tupX (pa_cons pe_str (pa_cons pe_str (pa_cons pe_str pa_nil)))) (pa_cons (Tx.pe_tupX (pa_cons pe_str pa_nil)) pa_nil)))) pa_nil)))
      (pss_one (ps_ret (pe_and (pe_cmpR (op_eqD hu) (pv 8) (pe_lst (pa_cons pe_int (pa_cons pe_int (pa_cons pe_int (pa_cons pe_int pa_nil))))) (nomark _)) (pe_one (pe_cmpR (op_eqD hu) (pv 11) (pe_lst (pa_cons (pe_tup (pa_cons pe_str pa_nil)) (pa_cons (pe_tup (pa_cons pe_str pa_nil)) (pa_cons (pe_tup (pa_cons pe_str (pa_cons pe_str (pa_cons pe_str (pa_cons pe_str (pa_cons pe_str pa_nil)))))) pa_nil)))) (nomark _)))))))))))), ?_⟩
    have sl := spots_le (ns.map V.int).length
    refine ⟨_, rfl, a, _, rfl, .inl hS, _, _, rfl, _, _, rfl, _, rfl, by show -(2 ^ 62) ≤ spots _; omega, by show spots _ < 2 ^ 62; omega, ?_⟩
    refine for_range (lo := 0) (n := (spots (ns.map V.int).length).toNat) (fun i σ H' => ∃ v1 v2 v3 v4 v5 v6 : Option V, σ = [some (.ref a), v1, v2, v3, v4, v5, v6, none, none, none, none, none] ∧ Same H H')
      ⟨none, none, none, none, none, none, rfl, Same.refl H⟩ ?_ ?_
    · rintro i σ H0 hi ⟨v1, v2, v3, v4, v5, v6, rfl, s0⟩
      have hi' : i < 64 := by omega
      refine ⟨_, rfl, _, rfl, a, ns, i, by simp, s0.seq hS, hi', fun d H1 nd s1 di => ?_⟩
      refine ⟨_, rfl, d, 0, rfl, di, by decide, fun ad l0 H2 nad nad0 k2 had ars di2 => ?_⟩
      refine ⟨_, rfl, fun o dx no ndx ne => ?_⟩
      refine mkOps no ndx had ars.ok fun l H3 s3 pm op => ?_
      have di3 := di2.same s3
      have had3 := s3 _ _ had
      have nHd : H d = none := s0.free nd
      have s3' : Same H H3 := (Kp.over nd s1 k2 |> s0.trans).trans s3
      obtain ⟨ds3, hd3⟩ := di3.there
      have si3 : Sit H3 C d o ad l l0 := ⟨op, had3, pm, ars, nad⟩
      refine ⟨6, rfl, by decide, by decide, for_range (lo := 0) (n := (6 : Int).toNat) (fun j σ H' => ∃ w5 w6 : Option V, σ = [some (.ref a), some (.int (0 + (i : Int))), some (.ref d), some (.ref ad), some (.ref o), w5, w6, none, none, none, none, none] ∧ Kp d H3 H' ∧ Dice H' d (40 + 200 * j))
        ⟨v5, v6, rfl, Kp.refl d H3, di3⟩ ?_ ?_⟩
      · rintro j σ H4 hj ⟨w5, w6, rfl, k4, di4⟩
        have hj' : j < 6 := hj
        refine ⟨_, rfl, _, rfl, _, rfl, d, 14, _, rfl, di4, by omega, by decide, by decide, fun r o1 r0 r1 di5 => ?_⟩
        obtain ⟨rk, rfl⟩ := Int.eq_ofNat_of_zero_le r0
        have hrk : rk < 14 := by omega
        have ecap : (1 : Int) + (rk : Nat) = ((rk + 1 : Nat) : Int) := by omega
        have k5 : Kp d H3 (upd H4 d o1) := k4.trans Kp.upd
        have si5 := si3.kp hd3 k5
        generalize upd H4 d o1 = H5 at di5 k5 si5 ⊢
        obtain ⟨ds5, hd5⟩ := di5.there
        refine ⟨_, _, rfl, rfl, d, ad, rk + 1, 40 + 200 * j + 1, l0, by show [V.ref d, V.ref ad, V.int ((1 : Int) + (rk : Nat))] = _; rw [ecap], nad, si5.had, ars, by omega, by omega, di5, by omega, fun t zs H6 ntd nt k6 ht fo lz di6 => ?_⟩
        obtain ⟨ds6, hd6⟩ := di6.there
        have si6 := si5.kp hd5 k6
        refine ⟨_, rfl, _, rfl, _, rfl, _, rfl, d, o, ad, t, l, l0, zs, _, rfl, si6, ntd, .inl ht, fo, by omega, di6, by omega, fun H7 k7 di7 => ⟨_, rfl, if_false_of rfl ?_⟩⟩
        refine ⟨_, rfl, _, rfl, _, rfl, d, o, ad, l, l0, _, rfl, si6.kp hd6 k7, di7, by omega, fun H8 k8 di8 => ⟨_, rfl, if_false_of rfl ?_⟩⟩
        exact ⟨_, _, rfl, ((k5.trans k6).trans k7).trans k8, di8.more (by omega) (by omega)⟩
      · rintro σ H4 ⟨w5, w6, rfl, k4, di4⟩
        exact ⟨_, _, _, _, _, _, rfl, fun b u e => k4 b u (ne_of_none e nHd) (s3' _ _ e)⟩
    · rintro σ H1 ⟨v1, v2, v3, v4, v5, v6, rfl, s1⟩
      refine fun p np => ⟨upd_same, dkv wl, rfl, by decide, fun o ox no nox ne => ?_⟩
      have hp2 : (upd (upd H1 p (.dK [])) p (.dK (mergeK [] (dkv wl)))) p = some (.dK (dkv wl)) := by rw [upd_same, merge_all wl_nd]
      refine mkOps no nox hp2 wl_ok fun l H2 s2 pm op => ?_
      have ndl : (l.map (·.1)).Nodup := (pm.map _).nodup_iff.mpr wl_nd
      have nol : hole ∉ l.map (·.1) := fun m => wl_no ((pm.map _).mem_iff.mp m)
      have two : ∀ p ∈ l, p.2 ≤ 2 := fun p m => wl_ok.two p (pm.mem_iff.mp m)
      have eight : l.length ≤ 8 := by rw [pm.length_eq]; decide
      have mc : (("c" : Str), 0) ∈ l := pm.mem_iff.mpr (by decide +kernel)
      have ms : (("s" : Str), 1) ∈ l := pm.mem_iff.mpr (by decide +kernel)
      have mp : (("p" : Str), 2) ∈ l := pm.mem_iff.mpr (by decide +kernel)
      have fc : Fo l 1 [("c" : Str)] := .cons mc .nil
      clear hp2 no nox ne
      -- long
      refine ⟨by show 1 ≤ sizeLine; decide, fun t1 nt1 => ⟨t1, 2499, _, rfl, rfl, SqT.of upd_same, by decide, by decide, by decide, by decide, fun p1 np1 => ?_⟩⟩
      have s3 := (Same.new nt1 (o := .tup [V.str "s"])).trans (Same.new np1 (o := .tup (List.replicate 2499 [V.str "s"]).flatten))
      have hp1 : Ws (upd (upd H2 t1 (.tup [V.str "s"])) p1 (.tup (List.replicate 2499 [V.str "s"]).flatten)) p1 (List.replicate 2499 ("s" : Str)) := .inl (by rw [upd_same, rep_flat])
      generalize upd (upd H2 t1 (.tup [V.str "s"])) p1 (.tup (List.replicate 2499 [V.str "s"]).flatten) = H3 at s3 hp1 ⊢
      refine ⟨by show 1 ≤ sizeLine; decide, fun t2 H4 n4 s4 w4 => ?_⟩
      refine catWpR (ys := [hole]) (hp1.same s4) w4 (by simp) (by rw [List.length_replicate, sizeLine_eq]; simp) fun lg H5 s5 w5 => ?_
      have w5 : Wp H5 lg (cxt (List.replicate 2499 ("s" : Str)) []) := w5
      refine ⟨by show 0 ≤ sizeLine; decide, fun tl ntl => ?_⟩
      refine ⟨_, _, rfl, ?_⟩
      have op6 := op.same (((s3.trans s4).trans s5).trans (Same.new (o := .lst []) ntl))
      have w6 := w5.same (Same.new (o := .lst []) ntl)
      have e6 : (upd H5 tl (.lst [])) tl = some (.lst []) := upd_same
      generalize upd H5 tl (.lst []) = H6 at op6 w6 e6 ⊢
      have icl : IsC l (List.replicate 2499 ("s" : Str)) [] := ⟨no_rep, by simp, fo_rep (List.mem_append_left _ ms) fo_hole 2499⟩
      have lgl : (cxt (List.replicate 2499 ("s" : Str)) []).length = 2500 := by
        unfold cxt
        rw [List.length_append, List.length_replicate]
        rfl
      clear w5 ntl w4 hp1 n4 s5 s4 s3
      refine ⟨by show 2 ≤ sizeLine; decide, fun q1 nq1 => ?_⟩
      refine ⟨by show 1 ≤ sizeLine; decide, fun q2 nq2 => ?_⟩
      refine ⟨by show 3 ≤ sizeLine; decide, fun q3 nq3 => ?_⟩
      refine ⟨by show 3 ≤ sizeLine; decide, fun pl npl => ?_⟩
      have z1 := Same.new (o := .tup [V.str "s", V.str "c"]) nq1
      have y1 : Ws (upd H6 q1 (.tup [V.str "s", V.str "c"])) q1 ["s", "c"] := .inl upd_same
      generalize upd H6 q1 (.tup [V.str "s", V.str "c"]) = G1 at z1 y1 nq2 nq3 npl ⊢
      have z2 := Same.new (o := .tup [V.str "c"]) nq2
      have y2 : Ws (upd G1 q2 (.tup [V.str "c"])) q2 ["c"] := .inl upd_same
      generalize upd G1 q2 (.tup [V.str "c"]) = G2 at z2 y2 nq3 npl ⊢
      have z3 := Same.new (o := .tup [V.str "s", V.str "s", V.str "c"]) nq3
      have y3 : Ws (upd G2 q3 (.tup [V.str "s", V.str "s", V.str "c"])) q3 ["s", "s", "c"] := .inl upd_same
      generalize upd G2 q3 (.tup [V.str "s", V.str "s", V.str "c"]) = G3 at z3 y3 npl ⊢
      have z4 := Same.new (o := .lst [V.ref q1, V.ref q2, V.ref q3]) npl
      have y4 : (upd G3 pl (.lst [V.ref q1, V.ref q2, V.ref q3])) pl = some (.lst [V.ref q1, V.ref q2, V.ref q3]) := upd_same
      have npt : pl ≠ tl := fun e => by
        rw [e, z3 _ _ (z2 _ _ (z1 _ _ e6))] at npl
        cases npl
      generalize upd G3 pl (.lst [V.ref q1, V.ref q2, V.ref q3]) = H7 at z4 y4 ⊢
      have sz := ((z1.trans z2).trans z3).trans z4
      have op7 := op6.same sz
      have w7 := w6.same sz
      have e7 := sz _ _ e6
      have r1 := y1.same ((z2.trans z3).trans z4)
      have r2 := y2.same (z3.trans z4)
      have r3 := y3.same z4
      clear y1 y2 y3 z1 z2 z3 z4 sz op6 w6 e6 nq1 nq2 nq3 npl
      have parts : ∀ (i : Nat) (x : V), ([V.ref q1, V.ref q2, V.ref q3])[i]? = some x → ∃ (q : Addr) (v : List Str), x = .ref q ∧ Ws H7 q v ∧ Fo l 1 v ∧ v.length ≤ 3 ∧ ([5000, 4999, 5000] : List Int)[i]? = some (if v.length ≤ 2 then 4998 + (v.length : Int) else 5000) := fun i x h =>
        match i, h with
        | 0, h => by cases h; exact ⟨q1, _, rfl, r1, .cons (n := 0) ms fc, by decide, by decide⟩
        | 1, h => by cases h; exact ⟨q2, _, rfl, r2, fc, by decide, by decide⟩
        | 2, h => by cases h; exact ⟨q3, _, rfl, r3, .cons (n := 0) ms (.cons (n := 0) ms fc), by decide, by decide⟩
        | i + 3, h => by cases h
      refine ⟨pl, rfl, ⟨_, SqL.of y4⟩, ?_⟩
      refine for_list (K := K) (a := pl) (xs := [V.ref q1, V.ref q2, V.ref q3]) (g := gName 9) (tb := fun D σ H => tb1 K C CT (wAs K (.ref CT) 10 (tsu K CT) (fun _ _ _ _ => False) D) D σ H) (fun i σ H' => ∃ v9 : Option V, σ = [some (.ref a), v1, v2, v3, some (.ref o), v5, v6, some (.ref lg), some (.ref tl), v9, none, none] ∧ Kp tl H7 H' ∧ H' tl = some (.lst ((([5000, 4999, 5000] : List Int).take i).map V.int)) ∧ SqL K H' pl [V.ref q1, V.ref q2, V.ref q3])
        ⟨none, rfl, Kp.refl tl H7, e7, SqL.of y4⟩ (fun i σ H' _ ⟨_, _, _, _, e⟩ => e) ?_ ?_
      · rintro i x σ H' hx ⟨v9, rfl, kt, eT, hpl⟩
        obtain ⟨qq, v, rfl, hv, fv, lv, hval⟩ := parts i x hx
        have nv : qq ≠ tl := hv.ne e7
        have nl : lg ≠ tl := w7.ws.ne e7
        have op8 := op7.kp e7 kt
        have w8 := w7.kp kt nl
        have hv8 : Ws H' qq v := Rd.kp hv kt nv
        obtain ⟨dx, tn, ta, tll, ho, hn', ha⟩ := op8.ex
        have tk1 : ([5000, 4999, 5000] : List Int).take (i + 1) = ([5000, 4999, 5000] : List Int).take i ++ [if v.length ≤ 2 then 4998 + (v.length : Int) else 5000] := by rw [List.take_add_one, hval]; rfl
        have i3 : (([5000, 4999, 5000] : List Int).take i).length ≤ 3 := by
          rw [List.length_take]
          exact Nat.min_le_right _ _
        have ctl : CtxR H' l (lg, (List.replicate 2499 ("s" : Str), [])) := ⟨w8, icl, by show (cxt (List.replicate 2499 ("s" : Str)) []).length ≤ 5000; omega⟩
        have lenF : (resF (List.replicate 2499 ("s" : Str), []) [(lg, (List.replicate 2499 ("s" : Str), []))] (some (qq, v))).length = 4998 + v.length := by
          show (fill [(List.replicate 2499 ("s" : Str), []), (List.replicate 2499 ("s" : Str), [])] v).length = _
          rw [fill_len]
          simp only [List.map_cons, List.map_nil, List.sum_cons, List.sum_nil, List.length_replicate, List.length_nil]
          omega
        refine ⟨_, rfl, .inl ⟨rfl, _, SqL.of eT⟩, _, rfl, o, dx, _, rfl, ho, rfl, _, rfl, _, rfl, _, rfl, ?_⟩
        refine fillSp (mid := [(lg, (List.replicate 2499 ("s" : Str), []))]) (z := some (qq, v)) (k := (List.replicate 2499 ("s" : Str), [])) op8 nol ndl eight ctl (fun p m => by rw [List.mem_singleton.mp m]; exact ctl) (fun e => nomatch e) (fun u e => ?_) (by show 1 ≤ 1000; decide) (fun le r H'' s' w _ => ?_) (fun gt d H'' s' nd => ?_)
        · cases e
          exact ⟨hv8, by show v.length ≤ 5000; omega, .inl fv⟩
        · rw [lenF] at le
          have nt : tl ≠ r := fun e => (w.ne (s' _ _ eT)) e.symm
          refine ⟨r, _, rfl, .inr (.inl w), tl, _, _, rfl, rfl, s' _ _ eT, by rw [List.length_map, sizeLine_eq]; omega, ?_⟩
          rw [List.length_map, lenF]
          refine ⟨_, rfl, (kt.trans (Kp.same s')).trans Kp.upd, ?_, Kp.seq Kp.upd npt (s'.seq hpl)⟩
          rw [upd_same, tk1, List.map_append, if_pos (by omega)]
          rfl
        · rw [lenF] at gt
          have s2' := s'.trans (Same.new (o := errL) nd)
          refine ⟨true, O.te, fun _ ae hae => ?_, fun z => Bool.noConfusion z⟩
          refine ⟨_, rfl, .inl ⟨rfl, _, SqL.of (s2' _ _ eT)⟩, _, rfl, rfl, rfl, d, .int 5000, rfl, upd_same, tl, _, _, rfl, rfl, s2' _ _ eT, by rw [List.length_map, sizeLine_eq]; omega, ?_⟩
          refine ⟨_, rfl, (kt.trans (Kp.same s2')).trans Kp.upd, ?_, Kp.seq Kp.upd npt (s2'.seq hpl)⟩
          rw [upd_same, tk1, List.map_append, if_neg (by omega)]
          rfl
      · rintro σ H8 ⟨v9, rfl, kt, eT, _⟩
        have op8 := op7.kp e7 kt
        have eT : H8 tl = some (.lst [.int 5000, .int 4999, .int 5000]) := eT
        clear e7 op7 kt hlen parts r1 r2 r3 y4 w7 npt
        obtain ⟨dx, tn, ta, tll, ho, hn', ha⟩ := op8.ex
        -- replaced
        refine ⟨_, rfl, .inl ⟨rfl, _, SqL.of eT⟩, _, rfl, o, dx, _, rfl, ho, rfl, by show 1 ≤ sizeLine; decide, fun t1 nt1 => ⟨t1, 4998, _, rfl, rfl, SqT.of upd_same, by decide, by decide, by decide, by decide, fun p1 np1 => ?_⟩⟩
        have s3 := (Same.new nt1 (o := .tup [V.str "s"])).trans (Same.new np1 (o := .tup (List.replicate 4998 [V.str "s"]).flatten))
        have hp1 : Ws (upd (upd H8 t1 (.tup [V.str "s"])) p1 (.tup (List.replicate 4998 [V.str "s"]).flatten)) p1 (List.replicate 4998 ("s" : Str)) := .inl (by rw [upd_same, rep_flat])
        generalize upd (upd H8 t1 (.tup [V.str "s"])) p1 (.tup (List.replicate 4998 [V.str "s"]).flatten) = H9 at s3 hp1 ⊢
        refine ⟨by show 1 ≤ sizeLine; decide, fun t2 H10 n4 s4 w4 => ?_⟩
        refine catWpR (ys := [("c" : Str)]) (hp1.same s4) w4 (by simp) (by rw [List.length_replicate, sizeLine_eq]; simp) fun tr H11 s5 w5 => ?_
        refine ⟨by show 3 ≤ sizeLine; decide, fun q nq => ?_⟩
        have s6 : Same H11 (upd H11 q (.tup [V.str "p", V.str "c", V.str "c"])) := Same.new nq
        have wq : Ws (upd H11 q (.tup [V.str "p", V.str "c", V.str "c"])) q ["p", "c", "c"] := .inl upd_same
        generalize upd H11 q (.tup [V.str "p", V.str "c", V.str "c"]) = H12 at s6 wq ⊢
        have sA := ((s3.trans s4).trans s5).trans s6
        have fz : Fo l 1 (List.replicate 4998 ("s" : Str) ++ [("c" : Str)]) := fo_rep ms fc 4998
        have lz : (List.replicate 4998 ("s" : Str) ++ [("c" : Str)]).length = 4999 := by
          rw [List.length_append, List.length_replicate]
          rfl
        have st : stopAt l (List.replicate 4998 ("s" : Str) ++ [("c" : Str)]) 4998 = 4999 := by
          have h := stop_again ndl (a := List.replicate 4998 ("s" : Str)) (ys := ["c"]) (b := []) fc
          rw [List.length_replicate] at h
          exact h
        have fp : Fo l 1 [("p" : Str), "c", "c"] := .cons (n := 0) mp (.cons (n := 1) mc (.cons (n := 0) mc .nil))
        refine ⟨o, tr, q, l, _, ["p", "c", "c"], 4998, rfl, ⟨op8.same sA, (w5.same s6).ws, ndl, fz, by omega, two⟩, by omega, ⟨op8.same sA, wq, ndl, fp, by decide, two⟩, fun le => absurd le (by rw [st, lz]; decide), fun _ d H13 s7 nd => ?_⟩
        have s8 := (sA.trans s7).trans (Same.new (o := errL) nd)
        refine ⟨true, O.te, fun _ ae hae => ?_, fun z => Bool.noConfusion z⟩
        refine ⟨_, rfl, .inl ⟨rfl, _, SqL.of (s8 _ _ eT)⟩, _, rfl, rfl, rfl, d, .int 5000, rfl, upd_same, tl, _, _, rfl, rfl, s8 _ _ eT, by show 3 < sizeLine; decide, ?_⟩
        have k9 : Kp tl H8 (upd (upd H13 d errL) tl (.lst ([.int 5000, .int 4999, .int 5000] ++ [.int 5000]))) := (Kp.same s8).trans Kp.upd
        have op9 := op8.kp eT k9
        have e9 : (upd (upd H13 d errL) tl (.lst ([.int 5000, .int 4999, .int 5000] ++ [.int 5000]))) tl = some (.lst [.int 5000, .int 4999, .int 5000, .int 5000]) := upd_same
        generalize upd (upd H13 d errL) tl (.lst ([.int 5000, .int 4999, .int 5000] ++ [.int 5000])) = J0 at op9 e9 ⊢
        clear k9 s8 s7 nd wq s6 nq w5 s5 w4 s4 n4 hp1 s3 sA ho ha hn' op8 eT
        obtain ⟨dx, tn, ta, tll, ho, hn', ha⟩ := op9.ex
        have ic0 : IsC l [] [] := IsC.hole0
        have icp : IsC l [("p" : Str)] ["c"] := ⟨by decide +kernel, by decide +kernel, .cons (n := 0) (List.mem_append_left _ mp) (.cons (n := 1) (List.mem_append_right _ List.mem_cons_self) (.cons (n := 0) (List.mem_append_left _ mc) .nil))⟩
        -- some
        refine ⟨_, rfl, o, dx, _, rfl, ho, rfl, by show 1 ≤ sizeLine; decide, fun u1 J1 _ z1 x1 => ?_⟩
        have x1 : Wp J1 u1 (cxt [] []) := x1
        refine fillSp (mid := []) (z := none) (k := ([], [])) (op9.same z1) nol ndl eight ⟨x1, ic0, c0_few⟩ (fun _ m => nomatch m) (fun _ => rfl) (fun z e => nomatch e) (by decide) (fun _ ra J2 z2 xa _ => ?_) (fun h => absurd h (by decide +kernel))
        have xa : Ws J2 ra [hole] := xa
        have z02 := z1.trans z2
        refine ⟨_, rfl, o, dx, _, rfl, z02 _ _ ho, rfl, by show 1 ≤ sizeLine; decide, fun u2 J3 _ z3 x2 => ?_⟩
        have x2 : Wp J3 u2 (cxt [] []) := x2
        refine ⟨by show 1 ≤ sizeLine; decide, fun u3 J4 _ z4 x3 => ?_⟩
        have x3 : Wp J4 u3 (cxt [] []) := x3
        refine ⟨by show 1 ≤ sizeLine; decide, fun u4 J5 _ z5 x4 => ?_⟩
        have x4 : Wp J5 u4 ["c"] := x4
        have z05 := ((z02.trans z3).trans z4).trans z5
        refine fillSp (mid := [(u3, ([], []))]) (z := some (u4, ["c"])) (k := ([], [])) (op9.same z05) nol ndl eight ⟨x2.same (z4.trans z5), ic0, c0_few⟩ (fun p m => by rw [List.mem_singleton.mp m]; exact ⟨x3.same z5, ic0, c0_few⟩) (fun e => nomatch e) (fun z e => ?_) (by show 1 ≤ 1000; decide) (fun _ rb J6 z6 xb _ => ?_) (fun h => absurd h f0_few)
        · cases e
          exact ⟨x4.ws, c1_few, .inl fc⟩
        have xb : Ws J6 rb ["c"] := xb
        have z06 := z05.trans z6
        have xa6 := xa.same (((z3.trans z4).trans z5).trans z6)
        refine ⟨by show 2 ≤ sizeLine; decide, fun sm nsm => ?_⟩
        have z7 : Same J6 (upd J6 sm (.lst [V.ref ra, V.ref rb])) := Same.new nsm
        have em : (upd J6 sm (.lst [V.ref ra, V.ref rb])) sm = some (.lst [V.ref ra, V.ref rb]) := upd_same
        generalize upd J6 sm (.lst [V.ref ra, V.ref rb]) = J7 at z7 em ⊢
        have z07 := z06.trans z7
        have xa7 := xa6.same z7
        have xb7 := xb.same z7
        have nsl : sm ≠ tl := fun e => by rw [e, z06 _ _ e9] at nsm; cases nsm
        refine ⟨_, rfl, .inl ⟨rfl, _, SqL.of em⟩, _, rfl, o, dx, _, rfl, z07 _ _ ho, rfl, by show 3 ≤ sizeLine; decide, fun u5 J8 _ z8 x5 => ?_⟩
        have x5 : Wp J8 u5 (cxt ["p"] ["c"]) := x5
        refine ⟨by show 3 ≤ sizeLine; decide, fun u6 J9 _ z9 x6 => ?_⟩
        have x6 : Wp J9 u6 (cxt ["p"] ["c"]) := x6
        refine ⟨by show 1 ≤ sizeLine; decide, fun u7 J10 _ z10 x7 => ?_⟩
        have x7 : Wp J10 u7 ["c"] := x7
        have z010 := ((z07.trans z8).trans z9).trans z10
        refine fillSp (mid := [(u6, (["p"], ["c"]))]) (z := some (u7, ["c"])) (k := (["p"], ["c"])) (op9.same z010) nol ndl eight ⟨x5.same (z9.trans z10), icp, cp_few⟩ (fun p m => by rw [List.mem_singleton.mp m]; exact ⟨x6.same z10, icp, cp_few⟩) (fun e => nomatch e) (fun z e => ?_) (by show 1 ≤ 1000; decide) (fun _ rc J11 z11 xc _ => ?_) (fun h => absurd h f1_few)
        · cases e
          exact ⟨x7.ws, c1_few, .inl fc⟩
        have xc : Ws J11 rc ["p", "p", "c", "c", "c"] := xc
        have z711 := ((z8.trans z9).trans z10).trans z11
        have em11 := z711 _ _ em
        have e11 := (z010.trans z11) _ _ e9
        have xa11 := xa7.same z711
        have xb11 := xb7.same z711
        refine ⟨sm, _, _, rfl, rfl, em11, by show 2 < sizeLine; decide, ?_⟩
        have xa12 : Ws (upd J11 sm (.lst ([V.ref ra, V.ref rb] ++ [V.ref rc]))) ra [hole] := Rd.kp xa11 Kp.upd (xa11.ne em11)
        have xb12 : Ws (upd J11 sm (.lst ([V.ref ra, V.ref rb] ++ [V.ref rc]))) rb ["c"] := Rd.kp xb11 Kp.upd (xb11.ne em11)
        have xc12 : Ws (upd J11 sm (.lst ([V.ref ra, V.ref rb] ++ [V.ref rc]))) rc ["p", "p", "c", "c", "c"] := Rd.kp xc Kp.upd (xc.ne em11)
        have e12 : (upd J11 sm (.lst ([V.ref ra, V.ref rb] ++ [V.ref rc]))) tl = some (.lst [.int 5000, .int 4999, .int 5000, .int 5000]) := by
          rw [upd_ne nsl.symm]
          exact e11
        have em12 : (upd J11 sm (.lst ([V.ref ra, V.ref rb] ++ [V.ref rc]))) sm = some (.lst [V.ref ra, V.ref rb, V.ref rc]) := upd_same
        generalize upd J11 sm (.lst ([V.ref ra, V.ref rb] ++ [V.ref rc])) = J12 at xa12 xb12 xc12 e12 em12 ⊢
        refine ⟨_, rfl, by show 4 ≤ sizeLine; decide, fun L nL => ?_⟩
        have dInts : ∀ G : Hp, DpAll K G [V.int 5000, V.int 4999, V.int 5000, V.int 5000] [.int 5000, .int 4999, .int 5000, .int 5000] := fun G => .cons (.int _) (.cons (.int _) (.cons (.int _) (.cons (.int _) .nil)))
        have sL : Same J12 (upd J12 L (.lst [.int 5000, .int 4999, .int 5000, .int 5000])) := Same.new nL
        refine eqAny (d := .list [.int 5000, .int 4999, .int 5000, .int 5000]) (.lst (SqL.of (sL _ _ e12)) (dInts _)) (.lst (SqL.of upd_same) (dInts _)) (by decide +kernel) ⟨_, rfl, iteT ?_⟩
        have xa13 := xa12.same sL
        have xb13 := xb12.same sL
        have xc13 := xc12.same sL
        have em13 := sL _ _ em12
        generalize upd J12 L (.lst [.int 5000, .int 4999, .int 5000, .int 5000]) = J13 at xa13 xb13 xc13 em13 ⊢
        refine ⟨_, rfl, by show 1 ≤ sizeLine; decide, fun a1 m1 => ?_⟩
        have k1 := Same.new (o := .tup [V.str "_"]) m1
        have g1 : Ws (upd J13 a1 (.tup [V.str "_"])) a1 [hole] := .inl upd_same
        generalize upd J13 a1 (.tup [V.str "_"]) = J14 at k1 g1 ⊢
        refine ⟨by show 1 ≤ sizeLine; decide, fun a2 m2 => ?_⟩
        have k2 := Same.new (o := .tup [V.str "c"]) m2
        have g2 : Ws (upd J14 a2 (.tup [V.str "c"])) a2 ["c"] := .inl upd_same
        generalize upd J14 a2 (.tup [V.str "c"]) = J15 at k2 g2 ⊢
        refine ⟨by show 5 ≤ sizeLine; decide, fun a3 m3 => ?_⟩
        have k3 := Same.new (o := .tup [V.str "p", V.str "p", V.str "c", V.str "c", V.str "c"]) m3
        have g3 : Ws (upd J15 a3 (.tup [V.str "p", V.str "p", V.str "c", V.str "c", V.str "c"])) a3 ["p", "p", "c", "c", "c"] := .inl upd_same
        generalize upd J15 a3 (.tup [V.str "p", V.str "p", V.str "c", V.str "c", V.str "c"]) = J16 at k3 g3 ⊢
        refine ⟨by show 3 ≤ sizeLine; decide, fun L2_ m4 => ?_⟩
        have k4 : Same J16 (upd J16 L2_ (.lst [V.ref a1, V.ref a2, V.ref a3])) := Same.new m4
        have k14 := ((k1.trans k2).trans k3).trans k4
        refine eqAny (d := .list ([[hole], ["c"], ["p", "p", "c", "c", "c"]].map fun zs => .tuple (zs.map strD))) (.lst (SqL.of (k14 _ _ em13)) (.cons (.tup (.inl (xa13.same k14)) (dp_strs [hole])) (.cons (.tup (.inl (xb13.same k14)) (dp_strs ["c"])) (.cons (.tup (.inl (xc13.same k14)) (dp_strs ["p", "p", "c", "c", "c"])) .nil))))
          (.lst (SqL.of upd_same) (.cons (.tup (.inl (g1.same ((k2.trans k3).trans k4))) (dp_strs [hole])) (.cons (.tup (.inl (g2.same (k3.trans k4))) (dp_strs ["c"])) (.cons (.tup (.inl (g3.same k4)) (dp_strs ["p", "p", "c", "c", "c"])) .nil)))) (by decide +kernel) (fin _)
end
end Pr
namespace Pr
open PySem PySem.Spec PyProof.Rows L2 Gd
theorem exm_self {K : PySem.W.Frag} {S : Addr} (h1 : PySem.W.subIn K (.ref S) (.type "BaseException") = some true) (h2 : PySem.W.isClsIn K S = true) (h3 : PySem.W.typeIn K (.ref S) = some (.type "type")) (h4 : PySem.W.subIn K (.ref S) (.ref S) = some true) :
    PySem.W.exmOne K (.ref S) (.ref S) = some true := by
  have e1 : (PySem.W.subIn K (.ref S) (.type "BaseException") == some true) = true := by rw [h1] <;> rfl
  have e2 : ((PySem.W.clsIn K S).isSome && PySem.W.typeIn K (.ref S) == some (.type "type")) = true := by
    have h2' : (PySem.W.clsIn K S).isSome = true := h2
    rw [h2', h3] <;> rfl
  show (if (PySem.W.subIn K (.ref S) (.type "BaseException") == some true) = true then (if ((PySem.W.clsIn K S).isSome && PySem.W.typeIn K (.ref S) == some (.type "type")) = true then PySem.W.subIn K (.ref S) (.ref S) else none) else none) = some true
  rw [if_pos e1, if_pos e2]
  exact h4
theorem all_mk {P : Program} {w : World} {K : PySem.W.Frag} {h : Heap} {mg : Str → Option Value} {fa : Addr} (X : K.In h) (G : h.Ns mainGlobals mg) (hfa : mg "law" = some (.ref fa))
    {f1 : Addr} {od1 an1 : Option Addr} {sl1 : Array (Option Value)} {oc1 kV1 dc1 pm1 cd1 ct1 : Value}
    {f2 : Addr} {od2 an2 : Option Addr} {sl2 : Array (Option Value)} {oc2 kV2 dc2 pm2 cd2 ct2 : Value}
    {f3 : Addr} {od3 an3 : Option Addr} {sl3 : Array (Option Value)} {oc3 kV3 dc3 pm3 cd3 ct3 : Value}
    {f4 : Addr} {od4 an4 : Option Addr} {sl4 : Array (Option Value)} {oc4 kV4 dc4 pm4 cd4 ct4 : Value}
    {f5 : Addr} {od5 an5 : Option Addr} {sl5 : Array (Option Value)} {oc5 kV5 dc5 pm5 cd5 ct5 : Value}
    {f6 : Addr} {od6 an6 : Option Addr} {sl6 : Array (Option Value)} {oc6 kV6 dc6 pm6 cd6 ct6 : Value}
    {f7 : Addr} {od7 an7 : Option Addr} {sl7 : Array (Option Value)} {oc7 kV7 dc7 pm7 cd7 ct7 : Value}
    {f8 : Addr} {od8 an8 : Option Addr} {sl8 : Array (Option Value)} {oc8 kV8 dc8 pm8 cd8 ct8 : Value}
    {f9 : Addr} {od9 an9 : Option Addr} {sl9 : Array (Option Value)} {oc9 kV9 dc9 pm9 cd9 ct9 : Value}
    {f10 : Addr} {od10 an10 : Option Addr} {sl10 : Array (Option Value)} {oc10 kV10 dc10 pm10 cd10 ct10 : Value}
    {f11 : Addr} {od11 an11 : Option Addr} {sl11 : Array (Option Value)} {oc11 kV11 dc11 pm11 cd11 ct11 : Value}
    {f12 : Addr} {od12 an12 : Option Addr} {sl12 : Array (Option Value)} {oc12 kV12 dc12 pm12 cd12 ct12 : Value}
    {f13 : Addr} {od13 an13 : Option Addr} {sl13 : Array (Option Value)} {oc13 kV13 dc13 pm13 cd13 ct13 : Value}
    {f14 : Addr} {od14 an14 : Option Addr} {sl14 : Array (Option Value)} {oc14 kV14 dc14 pm14 cd14 ct14 : Value}
    {f15 : Addr} {od15 an15 : Option Addr} {sl15 : Array (Option Value)} {oc15 kV15 dc15 pm15 cd15 ct15 : Value}
    {f16 : Addr} {od16 an16 : Option Addr} {sl16 : Array (Option Value)} {oc16 kV16 dc16 pm16 cd16 ct16 : Value}
    {f17 : Addr} {od17 an17 : Option Addr} {sl17 : Array (Option Value)} {oc17 kV17 dc17 pm17 cd17 ct17 : Value}
    {C : Addr}
    {f18 : Addr} {od18 an18 : Option Addr} {sl18 : Array (Option Value)} {oc18 kV18 dc18 pm18 cd18 ct18 : Value}
    {f19 : Addr} {od19 an19 : Option Addr} {sl19 : Array (Option Value)} {oc19 kV19 dc19 pm19 cd19 ct19 : Value}
    {f20 : Addr} {od20 an20 : Option Addr} {sl20 : Array (Option Value)} {oc20 kV20 dc20 pm20 cd20 ct20 : Value}
    {f21 : Addr} {od21 an21 : Option Addr} {sl21 : Array (Option Value)} {oc21 kV21 dc21 pm21 cd21 ct21 : Value}
    {f22 : Addr} {od22 an22 : Option Addr} {sl22 : Array (Option Value)} {oc22 kV22 dc22 pm22 cd22 ct22 : Value}
    {f23 : Addr} {od23 an23 : Option Addr} {sl23 : Array (Option Value)} {oc23 kV23 dc23 pm23 cd23 ct23 : Value}
    {f24 : Addr} {od24 an24 : Option Addr} {sl24 : Array (Option Value)} {oc24 kV24 dc24 pm24 cd24 ct24 : Value}
    {f25 : Addr} {od25 an25 : Option Addr} {sl25 : Array (Option Value)} {oc25 kV25 dc25 pm25 cd25 ct25 : Value}
    {f26 : Addr} {od26 an26 : Option Addr} {sl26 : Array (Option Value)} {oc26 kV26 dc26 pm26 cd26 ct26 : Value}
    {f27 : Addr} {od27 an27 : Option Addr} {sl27 : Array (Option Value)} {oc27 kV27 dc27 pm27 cd27 ct27 : Value}
    {tk_MAX_TREE : Tok}
    {tk_MAX_OPERATORS : Tok}
    {tk_MAX_LETTERS : Tok}
    {tk_HOLE : Tok}
    {C1 e1 : Addr} {xn1 xq1 : Str} {xN1 : Addr} {xb1 : List Value} {xs1 : List Str} {xu1 : List Value} {xa1 : Bool} {xc1 : Option Bool} {xd1 : Option Addr} {mq0 mq1 mq2 mq3 mq5 : Option Value} {xod1 xan1 : Option Addr} {xsl1 : Array (Option Value)} {xoc1 xdc1 xpm1 xcd1 xct1 : Value}
    (a1 : PySem.W.nsIn K mainGlobals "is_integer" = some (some (.ref f1)))
    (l1 : K.lookup f1 = some ⟨oc1, od1, .func (PySem.W.fnOf "is_integer" "is_integer" (defArgs sInteger) (defBody sInteger) (defScope sInteger) .none kV1 dc1 pm1 an1 cd1 ct1), sl1⟩)
    (c1 : PySem.W.codeIn K cd1 "is_integer" = true)
    (k1 : PySem.W.keepIn K (.ref f1) = true)
    (a2 : PySem.W.nsIn K mainGlobals "is_count" = some (some (.ref f2)))
    (l2 : K.lookup f2 = some ⟨oc2, od2, .func (PySem.W.fnOf "is_count" "is_count" (defArgs sCount) (defBody sCount) (defScope sCount) .none kV2 dc2 pm2 an2 cd2 ct2), sl2⟩)
    (c2 : PySem.W.codeIn K cd2 "is_count" = true)
    (k2 : PySem.W.keepIn K (.ref f2) = true)
    (a3 : PySem.W.nsIn K mainGlobals "is_name" = some (some (.ref f3)))
    (l3 : K.lookup f3 = some ⟨oc3, od3, .func (PySem.W.fnOf "is_name" "is_name" (defArgs sName) (defBody sName) (defScope sName) .none kV3 dc3 pm3 an3 cd3 ct3), sl3⟩)
    (c3 : PySem.W.codeIn K cd3 "is_name" = true)
    (k3 : PySem.W.keepIn K (.ref f3) = true)
    (a4 : PySem.W.nsIn K mainGlobals "are_arities" = some (some (.ref f4)))
    (l4 : K.lookup f4 = some ⟨oc4, od4, .func (PySem.W.fnOf "are_arities" "are_arities" (defArgs sAre) (defBody sAre) (defScope sAre) .none kV4 dc4 pm4 an4 cd4 ct4), sl4⟩)
    (c4 : PySem.W.codeIn K cd4 "are_arities" = true)
    (k4 : PySem.W.keepIn K (.ref f4) = true)
    (a5 : PySem.W.nsIn K mainGlobals "is_whole" = some (some (.ref f5)))
    (l5 : K.lookup f5 = some ⟨oc5, od5, .func (PySem.W.fnOf "is_whole" "is_whole" (defArgs sWhole) (defBody sWhole) (defScope sWhole) .none kV5 dc5 pm5 an5 cd5 ct5), sl5⟩)
    (c5 : PySem.W.codeIn K cd5 "is_whole" = true)
    (k5 : PySem.W.keepIn K (.ref f5) = true)
    (a6 : PySem.W.nsIn K mainGlobals "_law_dice" = some (some (.ref f6)))
    (l6 : K.lookup f6 = some ⟨oc6, od6, .func (PySem.W.fnOf "_law_dice" "_law_dice" (defArgs sDice) (defBody sDice) (defScope sDice) .none kV6 dc6 pm6 an6 cd6 ct6), sl6⟩)
    (c6 : PySem.W.codeIn K cd6 "_law_dice" = true)
    (k6 : PySem.W.keepIn K (.ref f6) = true)
    (a7 : PySem.W.nsIn K mainGlobals "_law_roll" = some (some (.ref f7)))
    (l7 : K.lookup f7 = some ⟨oc7, od7, .func (PySem.W.fnOf "_law_roll" "_law_roll" (defArgs sRoll) (defBody sRoll) (defScope sRoll) .none kV7 dc7 pm7 an7 cd7 ct7), sl7⟩)
    (c7 : PySem.W.codeIn K cd7 "_law_roll" = true)
    (k7 : PySem.W.keepIn K (.ref f7) = true)
    (a8 : PySem.W.nsIn K mainGlobals "_law_pick" = some (some (.ref f8)))
    (l8 : K.lookup f8 = some ⟨oc8, od8, .func (PySem.W.fnOf "_law_pick" "_law_pick" (defArgs sPick) (defBody sPick) (defScope sPick) .none kV8 dc8 pm8 an8 cd8 ct8), sl8⟩)
    (c8 : PySem.W.codeIn K cd8 "_law_pick" = true)
    (k8 : PySem.W.keepIn K (.ref f8) = true)
    (a9 : PySem.W.nsIn K mainGlobals "_law_mixed" = some (some (.ref f9)))
    (l9 : K.lookup f9 = some ⟨oc9, od9, .func (PySem.W.fnOf "_law_mixed" "_law_mixed" (defArgs sMixed) (defBody sMixed) (defScope sMixed) .none kV9 dc9 pm9 an9 cd9 ct9), sl9⟩)
    (c9 : PySem.W.codeIn K cd9 "_law_mixed" = true)
    (k9 : PySem.W.keepIn K (.ref f9) = true)
    (a10 : PySem.W.nsIn K mainGlobals "_law_end" = some (some (.ref f10)))
    (l10 : K.lookup f10 = some ⟨oc10, od10, .func (PySem.W.fnOf "_law_end" "_law_end" (defArgs sEndL) (defBody sEndL) (defScope sEndL) .none kV10 dc10 pm10 an10 cd10 ct10), sl10⟩)
    (c10 : PySem.W.codeIn K cd10 "_law_end" = true)
    (k10 : PySem.W.keepIn K (.ref f10) = true)
    (a11 : PySem.W.nsIn K mainGlobals "_law_drawn_tree" = some (some (.ref f11)))
    (l11 : K.lookup f11 = some ⟨oc11, od11, .func (PySem.W.fnOf "_law_drawn_tree" "_law_drawn_tree" (defArgs sDrawn) (defBody sDrawn) (defScope sDrawn) .none kV11 dc11 pm11 an11 cd11 ct11), sl11⟩)
    (c11 : PySem.W.codeIn K cd11 "_law_drawn_tree" = true)
    (k11 : PySem.W.keepIn K (.ref f11) = true)
    (a12 : PySem.W.nsIn K mainGlobals "_law_arities" = some (some (.ref f12)))
    (l12 : K.lookup f12 = some ⟨oc12, od12, .func (PySem.W.fnOf "_law_arities" "_law_arities" (defArgs sArs) (defBody sArs) (defScope sArs) .none kV12 dc12 pm12 an12 cd12 ct12), sl12⟩)
    (c12 : PySem.W.codeIn K cd12 "_law_arities" = true)
    (k12 : PySem.W.keepIn K (.ref f12) = true)
    (a13 : PySem.W.nsIn K mainGlobals "_law_drawn_context" = some (some (.ref f13)))
    (l13 : K.lookup f13 = some ⟨oc13, od13, .func (PySem.W.fnOf "_law_drawn_context" "_law_drawn_context" (defArgs sDCtx) (defBody sDCtx) (defScope sDCtx) .none kV13 dc13 pm13 an13 cd13 ct13), sl13⟩)
    (c13 : PySem.W.codeIn K cd13 "_law_drawn_context" = true)
    (k13 : PySem.W.keepIn K (.ref f13) = true)
    (a14 : PySem.W.nsIn K mainGlobals "_law_put" = some (some (.ref f14)))
    (l14 : K.lookup f14 = some ⟨oc14, od14, .func (PySem.W.fnOf "_law_put" "_law_put" (defArgs sPut) (defBody sPut) (defScope sPut) .none kV14 dc14 pm14 an14 cd14 ct14), sl14⟩)
    (c14 : PySem.W.codeIn K cd14 "_law_put" = true)
    (k14 : PySem.W.keepIn K (.ref f14) = true)
    (a15 : PySem.W.nsIn K mainGlobals "_law_tree_right" = some (some (.ref f15)))
    (l15 : K.lookup f15 = some ⟨oc15, od15, .func (PySem.W.fnOf "_law_tree_right" "_law_tree_right" (defArgs sTreeR) (defBody sTreeR) (defScope sTreeR) .none kV15 dc15 pm15 an15 cd15 ct15), sl15⟩)
    (c15 : PySem.W.codeIn K cd15 "_law_tree_right" = true)
    (k15 : PySem.W.keepIn K (.ref f15) = true)
    (a16 : PySem.W.nsIn K mainGlobals "_law_row_right" = some (some (.ref f16)))
    (l16 : K.lookup f16 = some ⟨oc16, od16, .func (PySem.W.fnOf "_law_row_right" "_law_row_right" (defArgs sRowR) (defBody sRowR) (defScope sRowR) .none kV16 dc16 pm16 an16 cd16 ct16), sl16⟩)
    (c16 : PySem.W.codeIn K cd16 "_law_row_right" = true)
    (k16 : PySem.W.keepIn K (.ref f16) = true)
    (a17 : PySem.W.nsIn K mainGlobals "law" = some (some (.ref f17)))
    (l17 : K.lookup f17 = some ⟨oc17, od17, .func (PySem.W.fnOf "law" "law" (defArgs sLaw) (defBody sLaw) (defScope sLaw) .none kV17 dc17 pm17 an17 cd17 ct17), sl17⟩)
    (c17 : PySem.W.codeIn K cd17 "law" = true)
    (k17 : PySem.W.keepIn K (.ref f17) = true)
    (n_C : PySem.W.nsIn K mainGlobals "Operators" = some (some (.ref C)))
    (pg_C : PySem.W.plainGet K C Str.empty = true)
    (hd_C : PySem.W.hasDictIn K C = true)
    (po_C : PySem.W.plainOver K C = true)
    (sa_C : PySem.W.findIn K (.ref C) "__setattr__" = some (some (.builtin "object.__setattr__")))
    (mk_C : PySem.W.makesIn K C = true)
    (kc_C : PySem.W.keepIn K (.ref C) = true)
    (no0_C : PySem.W.findIn K (.ref C) "_names" = some none)
    (no1_C : PySem.W.findIn K (.ref C) "_arities" = some none)
    (no2_C : PySem.W.findIn K (.ref C) "_lines" = some none)
    (no3_C : PySem.W.findIn K (.ref C) "_many" = some none)
    (no4_C : PySem.W.findIn K (.ref C) "_counts" = some none)
    (no5_C : PySem.W.findIn K (.ref C) "_rows" = some none)
    (a18 : PySem.W.findIn K (.ref C) "__init__" = some (some (.ref f18)))
    (i18 : PySem.W.isFn K (.ref f18) = true)
    (l18 : K.lookup f18 = some ⟨oc18, od18, .func (PySem.W.fnOf "__init__" "Operators.__init__" (defArgs mInit) (defBody mInit) (defScope mInit) .none kV18 dc18 pm18 an18 cd18 ct18), sl18⟩)
    (c18 : PySem.W.codeIn K cd18 "Operators.__init__" = true)
    (k18 : PySem.W.keepIn K (.ref f18) = true)
    (a19 : PySem.W.findIn K (.ref C) "is_tree" = some (some (.ref f19)))
    (i19 : PySem.W.isFn K (.ref f19) = true)
    (l19 : K.lookup f19 = some ⟨oc19, od19, .func (PySem.W.fnOf "is_tree" "Operators.is_tree" (defArgs mIsTree) (defBody mIsTree) (defScope mIsTree) .none kV19 dc19 pm19 an19 cd19 ct19), sl19⟩)
    (c19 : PySem.W.codeIn K cd19 "Operators.is_tree" = true)
    (k19 : PySem.W.keepIn K (.ref f19) = true)
    (a20 : PySem.W.findIn K (.ref C) "is_context" = some (some (.ref f20)))
    (i20 : PySem.W.isFn K (.ref f20) = true)
    (l20 : K.lookup f20 = some ⟨oc20, od20, .func (PySem.W.fnOf "is_context" "Operators.is_context" (defArgs mIsCtx) (defBody mIsCtx) (defScope mIsCtx) .none kV20 dc20 pm20 an20 cd20 ct20), sl20⟩)
    (c20 : PySem.W.codeIn K cd20 "Operators.is_context" = true)
    (k20 : PySem.W.keepIn K (.ref f20) = true)
    (a21 : PySem.W.findIn K (.ref C) "replaced" = some (some (.ref f21)))
    (i21 : PySem.W.isFn K (.ref f21) = true)
    (l21 : K.lookup f21 = some ⟨oc21, od21, .func (PySem.W.fnOf "replaced" "Operators.replaced" (defArgs mReplaced) (defBody mReplaced) (defScope mReplaced) .none kV21 dc21 pm21 an21 cd21 ct21), sl21⟩)
    (c21 : PySem.W.codeIn K cd21 "Operators.replaced" = true)
    (k21 : PySem.W.keepIn K (.ref f21) = true)
    (a22 : PySem.W.findIn K (.ref C) "cut" = some (some (.ref f22)))
    (i22 : PySem.W.isFn K (.ref f22) = true)
    (l22 : K.lookup f22 = some ⟨oc22, od22, .func (PySem.W.fnOf "cut" "Operators.cut" (defArgs mCut) (defBody mCut) (defScope mCut) .none kV22 dc22 pm22 an22 cd22 ct22), sl22⟩)
    (c22 : PySem.W.codeIn K cd22 "Operators.cut" = true)
    (k22 : PySem.W.keepIn K (.ref f22) = true)
    (a23 : PySem.W.findIn K (.ref C) "_check_tree" = some (some (.ref f23)))
    (i23 : PySem.W.isFn K (.ref f23) = true)
    (l23 : K.lookup f23 = some ⟨oc23, od23, .func (PySem.W.fnOf "_check_tree" "Operators._check_tree" (defArgs mChTree) (defBody mChTree) (defScope mChTree) .none kV23 dc23 pm23 an23 cd23 ct23), sl23⟩)
    (c23 : PySem.W.codeIn K cd23 "Operators._check_tree" = true)
    (k23 : PySem.W.keepIn K (.ref f23) = true)
    (a24 : PySem.W.findIn K (.ref C) "_check_place" = some (some (.ref f24)))
    (i24 : PySem.W.isFn K (.ref f24) = true)
    (l24 : K.lookup f24 = some ⟨oc24, od24, .func (PySem.W.fnOf "_check_place" "Operators._check_place" (defArgs mChPlace) (defBody mChPlace) (defScope mChPlace) .none kV24 dc24 pm24 an24 cd24 ct24), sl24⟩)
    (c24 : PySem.W.codeIn K cd24 "Operators._check_place" = true)
    (k24 : PySem.W.keepIn K (.ref f24) = true)
    (a25 : PySem.W.findIn K (.ref C) "_check_filling" = some (some (.ref f25)))
    (i25 : PySem.W.isFn K (.ref f25) = true)
    (l25 : K.lookup f25 = some ⟨oc25, od25, .func (PySem.W.fnOf "_check_filling" "Operators._check_filling" (defArgs mChFill) (defBody mChFill) (defScope mChFill) .none kV25 dc25 pm25 an25 cd25 ct25), sl25⟩)
    (c25 : PySem.W.codeIn K cd25 "Operators._check_filling" = true)
    (k25 : PySem.W.keepIn K (.ref f25) = true)
    (a26 : PySem.W.findIn K (.ref C) "_end" = some (some (.ref f26)))
    (i26 : PySem.W.isFn K (.ref f26) = true)
    (l26 : K.lookup f26 = some ⟨oc26, od26, .func (PySem.W.fnOf "_end" "Operators._end" (defArgs m_End) (defBody m_End) (defScope m_End) .none kV26 dc26 pm26 an26 cd26 ct26), sl26⟩)
    (c26 : PySem.W.codeIn K cd26 "Operators._end" = true)
    (k26 : PySem.W.keepIn K (.ref f26) = true)
    (a27 : PySem.W.findIn K (.ref C) "filled" = some (some (.ref f27)))
    (i27 : PySem.W.isFn K (.ref f27) = true)
    (l27 : K.lookup f27 = some ⟨oc27, od27, .func (PySem.W.fnOf "filled" "Operators.filled" (defArgs mFilled) (defBody mFilled) (defScope mFilled) .none kV27 dc27 pm27 an27 cd27 ct27), sl27⟩)
    (c27 : PySem.W.codeIn K cd27 "Operators.filled" = true)
    (k27 : PySem.W.keepIn K (.ref f27) = true)
    (cn_MAX_TREE : PySem.W.nsIn K mainGlobals "MAX_TREE" = some (some (.int 5000 tk_MAX_TREE)))
    (cn_MAX_OPERATORS : PySem.W.nsIn K mainGlobals "MAX_OPERATORS" = some (some (.int 8 tk_MAX_OPERATORS)))
    (cn_MAX_LETTERS : PySem.W.nsIn K mainGlobals "MAX_LETTERS" = some (some (.int 8 tk_MAX_LETTERS)))
    (cn_HOLE : PySem.W.nsIn K mainGlobals "HOLE" = some (some (.str "_" tk_HOLE)))
    (xC1 : PySem.W.nsIn K mainGlobals "TooMany" = some (some (.ref C1)))
    (xL1 : K.lookup C1 = some (excClassObj xn1 xq1 C1 xN1 xb1 [.type "OverflowError", .type "ArithmeticError", .type "Exception", .type "BaseException", .type "object"] true xs1 xu1 xa1 xc1 xd1 mq0 mq1 mq2 mq3 mq5 "OverflowError.__new__"))
    (xsa1 : PySem.W.findIn K (.ref C1) "__setattr__" = some (some (.builtin "object.__setattr__")))
    (xga1 : PySem.W.findIn K (.ref C1) "__getattribute__" = some (some (.builtin "BaseException.__getattribute__")))
    (xgg1 : PySem.W.findIn K (.ref C1) "__getattr__" = some none)
    (xnb1 : PySem.W.findIn K (.ref C1) "limit" = some none)
    (xa11 : PySem.W.findIn K (.ref C1) "__init__" = some (some (.ref e1)))
    (xt11 : PySem.W.typeIn K (.ref e1) = some (.type "function"))
    (xl11 : K.lookup e1 = some ⟨xoc1, xod1, .func (PySem.W.fnOf "__init__" "TooMany.__init__" (PySem.TmnyX.iA ⟨17, 17, 17, 21⟩ ⟨17, 23, 17, 28⟩) (PySem.TmnyX.iB ⟨18, 8, 18, 12⟩ ⟨18, 8, 18, 18⟩ ⟨18, 21, 18, 26⟩ ⟨18, 8, 18, 26⟩) PySem.TmnyX.iS .none .none xdc1 xpm1 xan1 xcd1 xct1), xsl1⟩)
    (xc11 : PySem.W.codeIn K xcd1 "TooMany.__init__" = true)
    (xkC1 : PySem.W.keepIn K (.ref C1) = true)
    (xeC1 : PySem.W.subIn K (.ref C1) (.type "BaseException") = some true)
    (xtC1 : PySem.W.typeIn K (.ref C1) = some (.type "type"))
    (xhC1 : PySem.W.hasDictIn K C1 = true)
    (xiC1 : PySem.W.isClsIn K C1 = true)
    (xsC1 : PySem.W.subIn K (.ref C1) (.ref C1) = some true)
    (z_len : PySem.W.nsIn K mainGlobals "len" = some none)
    (z_int : PySem.W.nsIn K mainGlobals "int" = some none)
    (z_abs : PySem.W.nsIn K mainGlobals "abs" = some none)
    (z_max : PySem.W.nsIn K mainGlobals "max" = some none)
    (z_min : PySem.W.nsIn K mainGlobals "min" = some none)
    (z_list : PySem.W.nsIn K mainGlobals "list" = some none)
    (z_range : PySem.W.nsIn K mainGlobals "range" = some none)
    (z_isinstance : PySem.W.nsIn K mainGlobals "isinstance" = some none)
    (z_bool : PySem.W.nsIn K mainGlobals "bool" = some none)
    (z_tuple : PySem.W.nsIn K mainGlobals "tuple" = some none)
    (z_str : PySem.W.nsIn K mainGlobals "str" = some none)
    (z_dict : PySem.W.nsIn K mainGlobals "dict" = some none)
    (z_sorted : PySem.W.nsIn K mainGlobals "sorted" = some none)
    (z_all : PySem.W.nsIn K mainGlobals "all" = some none)
    (z_sum : PySem.W.nsIn K mainGlobals "sum" = some none) :
    ∃ fd : FuncData, (∀ (s : Shared) (v : Value), BindsTo s fd ⟨[v], []⟩ [("script", v)]) ∧ ∀ base : Heap, K.In base → base.Ns mainGlobals mg → FnOk P w K mg base CX0 7 fa fd ["script"] (spLaw K) := by
  have e := hfa.symm.trans (PySem.W.mg_of X G a17)
  cases e
  have F1 := fun_mk (st := sInteger) l1 c1 k1
  have b1 := F1.binds (ps := ["value"]) fun _ _ _ _ _ _ us hl => match us, hl with | [_], _ => rfl
  have g1 := PySem.W.mg_of X G a1
  have F2 := fun_mk (st := sCount) l2 c2 k2
  have b2 := F2.binds (ps := ["value"]) fun _ _ _ _ _ _ us hl => match us, hl with | [_], _ => rfl
  have g2 := PySem.W.mg_of X G a2
  have F3 := fun_mk (st := sName) l3 c3 k3
  have b3 := F3.binds (ps := ["value"]) fun _ _ _ _ _ _ us hl => match us, hl with | [_], _ => rfl
  have g3 := PySem.W.mg_of X G a3
  have F4 := fun_mk (st := sAre) l4 c4 k4
  have b4 := F4.binds (ps := ["value"]) fun _ _ _ _ _ _ us hl => match us, hl with | [_], _ => rfl
  have g4 := PySem.W.mg_of X G a4
  have F5 := fun_mk (st := sWhole) l5 c5 k5
  have b5 := F5.binds (ps := ["words", "arities"]) fun _ _ _ _ _ _ us hl => match us, hl with | [_, _], _ => rfl
  have g5 := PySem.W.mg_of X G a5
  have F6 := fun_mk (st := sDice) l6 c6 k6
  have b6 := F6.binds (ps := ["script", "spot"]) fun _ _ _ _ _ _ us hl => match us, hl with | [_, _], _ => rfl
  have g6 := PySem.W.mg_of X G a6
  have F7 := fun_mk (st := sRoll) l7 c7 k7
  have b7 := F7.binds (ps := ["dice", "total"]) fun _ _ _ _ _ _ us hl => match us, hl with | [_, _], _ => rfl
  have g7 := PySem.W.mg_of X G a7
  have F8 := fun_mk (st := sPick) l8 c8 k8
  have b8 := F8.binds (ps := ["dice", "items"]) fun _ _ _ _ _ _ us hl => match us, hl with | [_, _], _ => rfl
  have g8 := PySem.W.mg_of X G a8
  have F9 := fun_mk (st := sMixed) l9 c9 k9
  have b9 := F9.binds (ps := ["dice", "items"]) fun _ _ _ _ _ _ us hl => match us, hl with | [_, _], _ => rfl
  have g9 := PySem.W.mg_of X G a9
  have F10 := fun_mk (st := sEndL) l10 c10 k10
  have b10 := F10.binds (ps := ["arities", "tree", "place"]) fun _ _ _ _ _ _ us hl => match us, hl with | [_, _, _], _ => rfl
  have g10 := PySem.W.mg_of X G a10
  have F11 := fun_mk (st := sDrawn) l11 c11 k11
  have b11 := F11.binds (ps := ["dice", "arities", "cap"]) fun _ _ _ _ _ _ us hl => match us, hl with | [_, _, _], _ => rfl
  have g11 := PySem.W.mg_of X G a11
  have F12 := fun_mk (st := sArs) l12 c12 k12
  have b12 := F12.binds (ps := ["dice"]) fun _ _ _ _ _ _ us hl => match us, hl with | [_], _ => rfl
  have g12 := PySem.W.mg_of X G a12
  have F13 := fun_mk (st := sDCtx) l13 c13 k13
  have b13 := F13.binds (ps := ["dice", "arities", "cap"]) fun _ _ _ _ _ _ us hl => match us, hl with | [_, _, _], _ => rfl
  have g13 := PySem.W.mg_of X G a13
  have F14 := fun_mk (st := sPut) l14 c14 k14
  have b14 := F14.binds (ps := ["context", "value"]) fun _ _ _ _ _ _ us hl => match us, hl with | [_, _], _ => rfl
  have g14 := PySem.W.mg_of X G a14
  have F15 := fun_mk (st := sTreeR) l15 c15 k15
  have b15 := F15.binds (ps := ["dice", "ops", "arities", "tree"]) fun _ _ _ _ _ _ us hl => match us, hl with | [_, _, _, _], _ => rfl
  have g15 := PySem.W.mg_of X G a15
  have F16 := fun_mk (st := sRowR) l16 c16 k16
  have b16 := F16.binds (ps := ["dice", "ops", "arities"]) fun _ _ _ _ _ _ us hl => match us, hl with | [_, _, _], _ => rfl
  have g16 := PySem.W.mg_of X G a16
  have F17 := fun_mk (st := sLaw) l17 c17 k17
  have cl_C : Cls K C := ⟨pg_C, hd_C, po_C, sa_C⟩
  have g_C := PySem.W.mg_of X G n_C
  have F18 := fun_mk (st := mInit) l18 c18 k18
  have b18 := F18.binds (ps := ["self", "arities"]) fun _ _ _ _ _ _ us hl => match us, hl with | [_, _], _ => rfl
  have m18 : Meth K C "__init__" f18 := ⟨a18, i18, k18⟩
  have F19 := fun_mk (st := mIsTree) l19 c19 k19
  have b19 := F19.binds (ps := ["self", "value"]) fun _ _ _ _ _ _ us hl => match us, hl with | [_, _], _ => rfl
  have m19 : Meth K C "is_tree" f19 := ⟨a19, i19, k19⟩
  have F20 := fun_mk (st := mIsCtx) l20 c20 k20
  have b20 := F20.binds (ps := ["self", "value"]) fun _ _ _ _ _ _ us hl => match us, hl with | [_, _], _ => rfl
  have m20 : Meth K C "is_context" f20 := ⟨a20, i20, k20⟩
  have F21 := fun_mk (st := mReplaced) l21 c21 k21
  have b21 := F21.binds (ps := ["self", "tree", "place", "other"]) fun _ _ _ _ _ _ us hl => match us, hl with | [_, _, _, _], _ => rfl
  have m21 : Meth K C "replaced" f21 := ⟨a21, i21, k21⟩
  have F22 := fun_mk (st := mCut) l22 c22 k22
  have b22 := F22.binds (ps := ["self", "tree", "place"]) fun _ _ _ _ _ _ us hl => match us, hl with | [_, _, _], _ => rfl
  have m22 : Meth K C "cut" f22 := ⟨a22, i22, k22⟩
  have F23 := fun_mk (st := mChTree) l23 c23 k23
  have b23 := F23.binds (ps := ["self", "tree"]) fun _ _ _ _ _ _ us hl => match us, hl with | [_, _], _ => rfl
  have m23 : Meth K C "_check_tree" f23 := ⟨a23, i23, k23⟩
  have F24 := fun_mk (st := mChPlace) l24 c24 k24
  have b24 := F24.binds (ps := ["self", "tree", "place"]) fun _ _ _ _ _ _ us hl => match us, hl with | [_, _, _], _ => rfl
  have m24 : Meth K C "_check_place" f24 := ⟨a24, i24, k24⟩
  have F25 := fun_mk (st := mChFill) l25 c25 k25
  have b25 := F25.binds (ps := ["self", "context", "rest"]) fun _ _ _ _ _ _ us hl => match us, hl with | [_, _, _], _ => rfl
  have m25 : Meth K C "_check_filling" f25 := ⟨a25, i25, k25⟩
  have F26 := fun_mk (st := m_End) l26 c26 k26
  have b26 := F26.binds (ps := ["self", "tree", "place"]) fun _ _ _ _ _ _ us hl => match us, hl with | [_, _, _], _ => rfl
  have m26 : Meth K C "_end" f26 := ⟨a26, i26, k26⟩
  have F27 := fun_mk (st := mFilled) l27 c27 k27
  have m27 : Meth K C "filled" f27 := ⟨a27, i27, k27⟩
  have gc_MAX_TREE := PySem.W.mg_of X G cn_MAX_TREE
  have gc_MAX_OPERATORS := PySem.W.mg_of X G cn_MAX_OPERATORS
  have gc_MAX_LETTERS := PySem.W.mg_of X G cn_MAX_LETTERS
  have gc_HOLE := PySem.W.mg_of X G cn_HOLE
  have low1 : PySem.TmnyX.TmnyTxt K mg C1 e1 :=
    { gC := PySem.W.mg_of X G xC1, cls := ⟨xn1, xq1, xN1, xb1, _, xs1, xu1, xa1, xc1, xd1, mq0, mq1, mq2, mq3, mq5, xL1, rfl⟩, sa := xsa1, ga := xga1, gg := xgg1, noN := xnb1, iC := xa11, tC := xt11, kC := xkC1, exC := xeC1, tyC := xtC1, hdC := xhC1, te := exm_self xeC1 xiC1 xtC1 xsC1,
      fn := ⟨_, _, _, _, _, _, _, _, _, _, _, _, _, _, xl11, xc11⟩ }
  have T : Free mg := ⟨PySem.W.mg_none_of X G z_len, PySem.W.mg_none_of X G z_int, PySem.W.mg_none_of X G z_abs, PySem.W.mg_none_of X G z_max, PySem.W.mg_none_of X G z_min, PySem.W.mg_none_of X G z_list, PySem.W.mg_none_of X G z_range, PySem.W.mg_none_of X G z_isinstance, PySem.W.mg_none_of X G z_bool, PySem.W.mg_none_of X G z_tuple, PySem.W.mg_none_of X G z_str, PySem.W.mg_none_of X G z_dict, PySem.W.mg_none_of X G z_sorted, PySem.W.mg_none_of X G z_all, PySem.W.mg_none_of X G z_sum⟩
  exact ⟨PySem.W.fnOf "law" "law" (defArgs sLaw) (defBody sLaw) (defScope sLaw) .none kV17 dc17 pm17 an17 cd17 ct17, fun s v => .of_eq rfl, fun base _ _ => ok_law F17 ⟨⟨cl_C, no0_C, no1_C, no2_C, no3_C, no4_C, no5_C⟩, F5, b5, g5, gc_MAX_TREE, F19, b19, m19, F23, b23, m23, F24, b24, m24, F26, b26, m26, F1, b1, g1, F2, b2, g2⟩ ⟨F11, b11, g11, F10, b10, g10, ⟨F20, b20, m20⟩, ⟨F25, b25, m25⟩, ⟨F22, b22, m22⟩, ⟨F21, b21, m21⟩, F27, m27, gc_HOLE, low1⟩ ⟨F6, b6, g6, F12, b12, g12, F13, b13, g13, F14, b14, g14, F15, b15, g15, F16, b16, g16, ⟨mk_C, a18, i18, kc_C⟩, g_C, F18, b18, F4, b4, g4, F3, b3, g3, gc_MAX_LETTERS, gc_MAX_OPERATORS, low1.te⟩ ⟨F7, b7, g7, F8, b8, g8, F9, b9, g9⟩ T⟩
end Pr
open PySem PySem.W PyProof.Rows
set_option maxHeartbeats 0 in
theorem PySem.Challenge.cw_munchbehind_k05_whole_trees_cut_and_fill_holds : PySem.Challenge.rw_munchbehind_k05_whole_trees_cut_and_fill.Holds := by
  w_on; o_law; k_head; (case hw => w_witness2)
  k_fill
  refine L2.walk_of (l := PySem.Challenge.rw_munchbehind_k05_whole_trees_cut_and_fill) (n := 63) (k := 7) (x := "script") (CX := fun _ => L2.CX0) (sp := fun w => Pr.spLaw _) rfl (by decide) rfl ⟨rfl, by decide, by decide⟩ (fun w h Y => PySem.W.kIn_of Y) ?F (fun _ _ a ns hl _ hS => ⟨a, ns, rfl, hS, hl, fun _ => rfl⟩) (fun _ _ _ _ _ h => h)
  case F =>
    intro w mg fa h KX G hmg
    refine' Pr.all_mk KX G hmg ?a1 ?l1 ?c1 ?k1 ?a2 ?l2 ?c2 ?k2 ?a3 ?l3 ?c3 ?k3 ?a4 ?l4 ?c4 ?k4 ?a5 ?l5 ?c5 ?k5 ?a6 ?l6 ?c6 ?k6 ?a7 ?l7 ?c7 ?k7 ?a8 ?l8 ?c8 ?k8 ?a9 ?l9 ?c9 ?k9 ?a10 ?l10 ?c10 ?k10 ?a11 ?l11 ?c11 ?k11 ?a12 ?l12 ?c12 ?k12 ?a13 ?l13 ?c13 ?k13 ?a14 ?l14 ?c14 ?k14 ?a15 ?l15 ?c15 ?k15 ?a16 ?l16 ?c16 ?k16 ?a17 ?l17 ?c17 ?k17 ?n_C ?pg_C ?hd_C ?po_C ?sa_C ?mk_C ?kc_C ?no0_C ?no1_C ?no2_C ?no3_C ?no4_C ?no5_C ?a18 ?i18 ?l18 ?c18 ?k18 ?a19 ?i19 ?l19 ?c19 ?k19 ?a20 ?i20 ?l20 ?c20 ?k20 ?a21 ?i21 ?l21 ?c21 ?k21 ?a22 ?i22 ?l22 ?c22 ?k22 ?a23 ?i23 ?l23 ?c23 ?k23 ?a24 ?i24 ?l24 ?c24 ?k24 ?a25 ?i25 ?l25 ?c25 ?k25 ?a26 ?i26 ?l26 ?c26 ?k26 ?a27 ?i27 ?l27 ?c27 ?k27 ?cn_MAX_TREE ?cn_MAX_OPERATORS ?cn_MAX_LETTERS ?cn_HOLE ?xC1 ?xL1 ?xsa1 ?xga1 ?xgg1 ?xnb1 ?xa11 ?xt11 ?xl11 ?xc11 ?xkC1 ?xeC1 ?xtC1 ?xhC1 ?xiC1 ?xsC1 ?z_len ?z_int ?z_abs ?z_max ?z_min ?z_list ?z_range ?z_isinstance ?z_bool ?z_tuple ?z_str ?z_dict ?z_sorted ?z_all ?z_sum
    (case a1 => k_is)
    (case l1 => k_is)
    (case c1 => k_is)
    (case k1 => k_is)
    (case a2 => k_is)
    (case l2 => k_is)
    (case c2 => k_is)
    (case k2 => k_is)
    (case a3 => k_is)
    (case l3 => k_is)
    (case c3 => k_is)
    (case k3 => k_is)
    (case a4 => k_is)
    (case l4 => k_is)
    (case c4 => k_is)
    (case k4 => k_is)
    (case a5 => k_is)
    (case l5 => k_is)
    (case c5 => k_is)
    (case k5 => k_is)
    (case a6 => k_is)
    (case l6 => k_is)
    (case c6 => k_is)
    (case k6 => k_is)
    (case a7 => k_is)
    (case l7 => k_is)
    (case c7 => k_is)
    (case k7 => k_is)
    (case a8 => k_is)
    (case l8 => k_is)
    (case c8 => k_is)
    (case k8 => k_is)
    (case a9 => k_is)
    (case l9 => k_is)
    (case c9 => k_is)
    (case k9 => k_is)
    (case a10 => k_is)
    (case l10 => k_is)
    (case c10 => k_is)
    (case k10 => k_is)
    (case a11 => k_is)
    (case l11 => k_is)
    (case c11 => k_is)
    (case k11 => k_is)
    (case a12 => k_is)
    (case l12 => k_is)
    (case c12 => k_is)
    (case k12 => k_is)
    (case a13 => k_is)
    (case l13 => k_is)
    (case c13 => k_is)
    (case k13 => k_is)
    (case a14 => k_is)
    (case l14 => k_is)
    (case c14 => k_is)
    (case k14 => k_is)
    (case a15 => k_is)
    (case l15 => k_is)
    (case c15 => k_is)
    (case k15 => k_is)
    (case a16 => k_is)
    (case l16 => k_is)
    (case c16 => k_is)
    (case k16 => k_is)
    (case a17 => k_is)
    (case l17 => k_is)
    (case c17 => k_is)
    (case k17 => k_is)
    (case n_C => k_is)
    (case pg_C => k_is)
    (case hd_C => k_is)
    (case po_C => k_is)
    (case sa_C => k_is)
    (case mk_C => k_is)
    (case kc_C => k_is)
    (case no0_C => k_is)
    (case no1_C => k_is)
    (case no2_C => k_is)
    (case no3_C => k_is)
    (case no4_C => k_is)
    (case no5_C => k_is)
    (case a18 => k_is)
    (case i18 => k_is)
    (case l18 => k_is)
    (case c18 => k_is)
    (case k18 => k_is)
    (case a19 => k_is)
    (case i19 => k_is)
    (case l19 => k_is)
    (case c19 => k_is)
    (case k19 => k_is)
    (case a20 => k_is)
    (case i20 => k_is)
    (case l20 => k_is)
    (case c20 => k_is)
    (case k20 => k_is)
    (case a21 => k_is)
    (case i21 => k_is)
    (case l21 => k_is)
    (case c21 => k_is)
    (case k21 => k_is)
    (case a22 => k_is)
    (case i22 => k_is)
    (case l22 => k_is)
    (case c22 => k_is)
    (case k22 => k_is)
    (case a23 => k_is)
    (case i23 => k_is)
    (case l23 => k_is)
    (case c23 => k_is)
    (case k23 => k_is)
    (case a24 => k_is)
    (case i24 => k_is)
    (case l24 => k_is)
    (case c24 => k_is)
    (case k24 => k_is)
    (case a25 => k_is)
    (case i25 => k_is)
    (case l25 => k_is)
    (case c25 => k_is)
    (case k25 => k_is)
    (case a26 => k_is)
    (case i26 => k_is)
    (case l26 => k_is)
    (case c26 => k_is)
    (case k26 => k_is)
    (case a27 => k_is)
    (case i27 => k_is)
    (case l27 => k_is)
    (case c27 => k_is)
    (case k27 => k_is)
    (case cn_MAX_TREE => k_is)
    (case cn_MAX_OPERATORS => k_is)
    (case cn_MAX_LETTERS => k_is)
    (case cn_HOLE => k_is)
    (case xC1 => k_is)
    (case xL1 => k_is)
    (case xsa1 => k_is)
    (case xga1 => k_is)
    (case xgg1 => k_is)
    (case xnb1 => k_is)
    (case xa11 => k_is)
    (case xt11 => k_is)
    (case xl11 => k_is)
    (case xc11 => k_is)
    (case xkC1 => k_is)
    (case xeC1 => k_is)
    (case xtC1 => k_is)
    (case xhC1 => k_is)
    (case xiC1 => k_is)
    (case xsC1 => first | rfl | k_is)
    (case z_len => k_is)
    (case z_int => k_is)
    (case z_abs => k_is)
    (case z_max => k_is)
    (case z_min => k_is)
    (case z_list => k_is)
    (case z_range => k_is)
    (case z_isinstance => k_is)
    (case z_bool => k_is)
    (case z_tuple => k_is)
    (case z_str => k_is)
    (case z_dict => k_is)
    (case z_sorted => k_is)
    (case z_all => k_is)
    (case z_sum => k_is)
