import PyProof.Rows.All
import Wide.All
import OpenK.AllK
import Wide.FinOn
import PyProof.EqAt
import PyProof.EqKinds
import PyProof.TupleCall
import KE.KExcInit
import KE.OsGo
import HandS.ForMost
import HandS.ForExc
import HandS.Wide
import HandS.IsInst
import HandS.StrMore
import PyProof.ReprReads
import PyProof.ReprRoads
import PyProof.CallFns
import PyProof.ListStr
import PyProof.StrLawsRepr
import HandS.TupMul
import HandS.TupAny
import HandS.More
import PySem.Challenge.RW_munchbehind_k01_words_judged
set_option Elab.async false
set_option linter.all false
set_option maxRecDepth 100000
set_option maxHeartbeats 2000000
/-! ### defs that are called where nothing is being shown (repr): what HandS says of a def, with that one fact more -/
namespace Gd
open PySem PySem.Spec PyProof.Rows L2
/-- a def's promise, kept wherever no repr is under way -/
structure FnG (P : Program) (w : World) (K : PySem.W.Frag) (mg : Str → Option Value) (base : Heap) (CX : CXT) (k : Nat) (f : Addr) (fd : FuncData) (ps : List Str) (sp : Sp) : Prop where
  len : ∀ vs H Q E, sp vs H Q E → vs.length = ps.length
  run : ∀ (A : Around) (outer : List Env) (s : Shared) (H : Hp) (args : Args) (us : List Value) (vs : List V) (Q : VK) (E : XK), Room k A → A.guards = some [] → Env0 P w K mg base A outer s H → BindsTo s fd args (ps.zip us) → Vals vs us → sp vs H Q E →
    codeAny (model P w) A (.call (.ref f) args) (CR CX outer P w H s Q E) s
section
variable {P : Program} {w : World} {K : PySem.W.Frag} {mg : Str → Option Value} {base : Heap} {CX : CXT} {k : Nat} {f : Addr} {fd : FuncData} {ps : List Str} {sp : Sp}
/-- out of its body -/
theorem FnG.of_body {qual : Str} {st : Stmt} {x : Str} {N : List Str} (F : Fun K x qual st f fd) (S : FnScope N ps (defScope st)) (len : ∀ vs H Q E, sp vs H Q E → vs.length = ps.length)
    (hbody : ∀ (cdv : Value) (A : Around) (outer : List Env) (s : Shared) (H : Hp) (vs : List V) (Q : VK) (E : XK), Room k (A.deeper (envOfC qual (defScope st) s.heap.objs.size f cdv)) →
      (A.deeper (envOfC qual (defScope st) s.heap.objs.size f cdv)).guards = some [] → sp vs H Q E →
      ∃ t, PSs (cxOf CX P w K mg base N qual (defScope st) f cdv A outer s H E) (defBody st) t ∧ t { nx := fun _ H' => Q .non H', rt := Q } (start N vs) H) : FnG P w K mg base CX (k + 1) f fd ps sp := by
  obtain ⟨oc, od, kV, doc, pm, an, cdv, ct, osl, rfl, lk, hcd⟩ := F.ex
  constructor
  · exact len
  intro A outer s H args us vs Q E room hg env bind rel want
  have size := len _ _ _ _ want
  have keep : ∀ b o, base.get? b = some o → s.heap.get? b = some o := fun b o e => (env.bs b o e).1
  have KX := env.mod.kin.keeps keep
  have lim := env.mod.nolimit.keeps keep
  have slots : ∀ y ∈ ps.zip us, (defScope st).names.lookup y.1 = some .local ∨ ((defScope st).names.lookup y.1 = some .cell ∧ ((cellsFrom (s.heap.objs.size + 1) (defScope st).names []).lookup y.1).isSome = true) := by
    rintro ⟨n, v⟩ hy
    exact (S.par n (List.of_mem_zip hy).1).imp id fun q => ⟨q, PySem.W.cellsFrom_some _ _ _ (.inl q)⟩
  refine codeAny_call_function room.depth (KX _ _ lk) rfl S.co S.gen rfl (PySem.W.codeRec_of KX hcd) (bind _ _ _ _ (wpAny_newFunctionEnv_cells S.kind slots fun env1 he s1 x => ?_))
  subst he
  refine ⟨lim.keeps x.toInCall.keep, codeAny_func ?_⟩
  have guard : (A.deeper (envOfC qual (defScope st) s.heap.objs.size f cdv)).guards = some [] := hg
  obtain ⟨t, ht, hq⟩ := hbody cdv A outer s H vs Q E (room.deeper _) guard want
  have I : Inv (cxOf CX P w K mg base N qual (defScope st) f cdv A outer s H E) [] (start N vs) H s1 := inv_start S room.hd env size rel x
  refine wpAny_mono (ht.run [] s1 (start N vs) H _ I hq) (fun fl s' hs => ?_) fun e s' hs => hs
  cases fl with
  | ret u =>
    obtain ⟨v, σ', H', J, rv, q⟩ := hs
    exact ⟨v, H', J.os, J.bare, J.base, J.hok, rv, q⟩
  | next =>
    obtain ⟨σ', H', J, q⟩ := hs
    exact ⟨V.non, H', J.os, J.bare, J.base, J.hok, rfl, q⟩
  | brk => exact (let ⟨_, _, _, q⟩ := hs; q : False).elim
  | cont => exact (let ⟨_, _, _, q⟩ := hs; q : False).elim
/-- the same, where no exception leaves it -/
theorem FnG.ok {qual : Str} {st : Stmt} {x : Str} {N : List Str} (F : Fun K x qual st f fd) (S : FnScope N ps (defScope st)) (len : ∀ vs H Q E, sp vs H Q E → vs.length = ps.length)
    (hbody : ∀ (cdv : Value) (A : Around) (outer : List Env) (s : Shared) (H : Hp) (vs : List V) (Q : VK) (E : XK), Room k (A.deeper (envOfC qual (defScope st) s.heap.objs.size f cdv)) →
      (A.deeper (envOfC qual (defScope st) s.heap.objs.size f cdv)).guards = some [] → sp vs H Q E →
      ∃ t, PSs (cxOf CX0 P w K mg base N qual (defScope st) f cdv A outer s H E).nox (defBody st) t ∧ t { nx := fun _ H' => Q .non H', rt := Q } (start N vs) H) : FnG P w K mg base CX0 (k + 1) f fd ps sp :=
  FnG.of_body F S len fun cdv A outer s H vs Q E hr hg h => let ⟨t, a, b⟩ := hbody cdv A outer s H vs Q E hr hg h; ⟨t, a.nox, b⟩
end
section
variable {X : Cx} {CX : CXT} {k : Nat} {f : Addr} {fd : FuncData} {ps : List Str} {sp : Sp} {E : XK} {x : Str} {p pos : Pos} {e : Expr} {es : List Expr} {t : TA}
/-- f(..) of such a def -/
theorem pe_callG (F : FnG X.prog X.w X.K X.mg X.base CX k f fd ps sp) (hr : Room k X.A) (gd : X.A.guards = some []) (hg : Gl X x) (hm : X.mg x = some (.ref f)) (hk : PySem.W.keepIn X.K (.ref f) = true) (hb : Binds X.K fd ps []) (hx : Passes CX X E)
    (ha : PA X (e :: es) t) (hdb : (x == ("__debug__" : Str)) = false := by decide) (he : starEach (e :: es) X.env = (false, eval e X.env) :: starEach es X.env := by rfl) (hpl : (backTo pos (starEach es X.env)).any (·.1) = false := by rfl) :
    PE X (.Call (.Name x p) (e :: es) [] pos) (tCall sp [] E t) := by
  refine ⟨fun pins s σ H Q I h => ?_⟩
  refine wpAny_Call_Name_kw (ld_glob I hg hm ?_ hdb)
  refine PySem.W.callWith_K (h₀ := X.base) I.ok.mod.kin hk (thn (ha.run pos pins s σ H _ I h) fun us s1 ⟨vs, H1, I1, r, q⟩ => ⟨I1.kIn, ?_⟩) he hpl
  have q' : sp vs H1 Q E := by
    have z : sp (vs ++ []) H1 Q E := q
    rw [List.append_nil] at z
    exact z
  have hl : us.length = ps.length := by rw [← r.length]; exact F.len _ _ _ _ q'
  have b := hb s1 us I1.kIn (by rw [List.append_nil]; exact hl)
  rw [List.append_nil] at b
  refine wpAny_call (codeAny_mono (F.run X.A X.stack s1 H1 ⟨us, []⟩ us vs Q E hr gd I1.env0 b r q') fun r' s' hq => ?_)
  cases r' with
  | error z => exact hx pins σ H1 s1 z s' I1 hq
  | ok fl =>
    cases fl with
    | ret u => exact I1.after hq
    | next => exact False.elim hq
    | brk => exact False.elim hq
    | cont => exact False.elim hq
end
/-- the script as the one thing that is tracked: at a, locked, where the written part has it not -/
def scriptH (K : PySem.W.Frag) (a : Addr) (o : Obj) (xs : List V) : Hp := fun b => if b = a ∧ K.lookup a = none then some (.frz o (.lst xs)) else none
theorem scriptH_some {K : PySem.W.Frag} {a b : Addr} {o : Obj} {xs : List V} {u : HO} (h : scriptH K a o xs b = some u) : b = a ∧ K.lookup a = none ∧ u = .frz o (.lst xs) := by
  unfold scriptH at h
  by_cases c : b = a ∧ K.lookup a = none
  · rw [if_pos c] at h
    exact ⟨c.1, c.2, (Option.some.inj h).symm⟩
  · rw [if_neg c] at h
    cases h
/-- the law's own call, from a promise that is kept where nothing is being shown -/
theorem law_callG {P : Program} {w : World} {K : PySem.W.Frag} {mg mb : Str → Option Value} {CX : CXT} {k : Nat} {fa a : Addr} {fd : FuncData} {x : Str} {sp : Sp} {s : Shared} {vs : List Value} {ns : List Int}
    (KX : K.In s.heap) (hns : s.heap.Ns mainGlobals mg) (hb : s.heap.Ns builtinsNs mb) (hbb : ∀ x : Str, x ≠ "__name__" → mb x = bootBuiltins x) (hlim : s.heap.NoLimit) (hg : s.gens = #[])
    (ha : s.heap.get? a = some { cls := .type "list", data := .seq vs.toArray }) (hi : IntsAre vs ns) (hl : ns.length ≤ sizeLine) (hr : Room k callerA)
    (F : ∀ base : Heap, K.In base → base.Ns mainGlobals mg → FnG P w K mg base CX k fa fd [x] sp) (hbind : ∀ (s : Shared) (u : Value), BindsTo s fd ⟨[u], []⟩ [(x, u)])
    (hsp : ∀ H : Hp, Only H → SqL K H a (ns.map V.int) → sp [.ref a] H (fun v _ => v = .bl true) fun _ _ _ => False)
    (hCX : ∀ H e s', CX [] H s (fun _ _ _ => False) e s' → False) :
    codeAny (model P w) callerA (.call (.ref fa) ⟨[.ref a], []⟩) (fun r s' => r = .ok (.ret (.bool true)) ∧ OldK s.heap s'.heap ∧ s'.os = s.os ∧ AllBare s'.gens) s := by
  have rv := vals_ints hi
  have lenV := hi.length
  let O : Obj := { cls := .type "list", data := .seq vs.toArray }
  let H : Hp := scriptH K a O (ns.map V.int)
  have only : Only H := fun b => by
    cases q : H b with
    | none => exact .inl rfl
    | some u => exact .inr ⟨O, ns.map V.int, by rw [(scriptH_some q).2.2]⟩
  have hS : SqL K H a (ns.map V.int) := by
    cases hk : K.lookup a with
    | none => exact .inl (.inr ⟨O, if_pos ⟨rfl, hk⟩⟩)
    | some o =>
      have e := KX a o hk
      rw [ha] at e
      cases e
      exact .inr ⟨_, vs.toArray, _, hk, rfl, rfl, rfl, by rw [List.size_toArray, lenV]; exact hl, by simpa using rv⟩
  have hok : HOk P w H s.heap := fun b u q => by
    obtain ⟨e1, _, e3⟩ := scriptH_some q
    rw [e1, e3]
    exact ⟨ha, by rw [List.length_map]; exact hl, vs, _, rv, ha⟩
  have notDict : ∀ {b : Addr} {o : Obj} {es : Array DictEntry} {ep : Nat}, s.heap.get? b = some o → o.data = .dict es ep → H b = none := fun {b o es ep} e d => by
    cases q : H b with
    | none => rfl
    | some u =>
      rw [(scriptH_some q).1, ha] at e
      cases e
      cases (show Data.seq vs.toArray _ = Data.dict es ep from d)
  have nsK : ∀ {b : Addr} {m : Str → Option Value}, s.heap.Ns b m → (hidT s.heap H).Ns b m := fun {b m} ⟨o, es, ep, e, d, r⟩ => ⟨o, es, ep, hidT_get e (notDict e d), d, r⟩
  have inK : K.In (hidT s.heap H) := fun b o e => hidT_get (KX b o e) (by
    cases q : H b with
    | none => rfl
    | some u =>
      obtain ⟨e1, e2, _⟩ := scriptH_some q
      rw [e1, e2] at e
      cases e)
  obtain ⟨mc, l1, l2⟩ := hlim
  have env : Env0 P w K mg (hidT s.heap H) callerA [] s H :=
    ⟨rfl, ⟨inK, nsK hns, ⟨mb, nsK hb, hbb⟩, ⟨mc, nsK l1, l2⟩⟩, fun b o e => of_hidT e, Nat.le_of_eq (hidT_size _ _), trivial, fun b m => absurd (show b ∈ ([] : List Addr) from m) (by simp), hok, .of_eq hg⟩
  refine codeAny_mono ((F _ inK (nsK hns)).run callerA [] s H ⟨[.ref a], []⟩ [.ref a] [.ref a] _ _ hr rfl env (hbind s (.ref a)) (.cons rfl .nil) (hsp H only hS)) fun r s' h => ?_
  cases r with
  | error e => exact (hCX H e s' h).elim
  | ok fl =>
    cases fl with
    | next => exact False.elim h
    | brk => exact False.elim h
    | cont => exact False.elim h
    | ret u =>
      obtain ⟨v, H', os, bare, un, hok', r', q⟩ := h
      obtain rfl : v = .bl true := q
      obtain rfl : u = Value.bool true := r'
      refine ⟨rfl, OldK.of_keep fun b o e => ?_, os, bare⟩
      cases q : H b with
      | none => exact un.keep b o e q (fun z => absurd (show b ∈ ([] : List Addr) from z) (by simp)) (by simp)
      | some u =>
        obtain ⟨_, _, eu⟩ := scriptH_some q
        rw [eu] at q
        have e1 := (hok b _ q).1
        have e2 := (hok' b _ (un.frzs b O _ q)).1
        rw [e] at e1
        cases e1
        exact e2
theorem walk_ofG {l : PySem.W.OpenLaw} {n k : Nat} {q : Program} {loose : List Str} {XP : (Str → Option Value) → Heap → Prop} {YP : World → Heap → Prop} {d : DefRec} {K : Params → PySem.W.Frag} {CX : World → CXT} {sp : World → Sp} {x : Str}
    (hn : l.most = some n) (hn2 : n ≤ sizeLine) (hdf : d.params.defaults = []) (hr : Room k callerA)
    (hY : ∀ (w : World) (h : Heap), YP w h → (K w.params).In h)
    (F : ∀ (w : World) (mg : Str → Option Value) (fa : Addr) (h : Heap), (K w.params).In h → h.Ns mainGlobals mg → mg d.name = some (.ref fa) →
      ∃ fd : FuncData, (∀ (s : Shared) (u : Value), BindsTo s fd ⟨[u], []⟩ [(x, u)]) ∧
        ∀ base : Heap, (K w.params).In base → base.Ns mainGlobals mg → FnG l.prog w (K w.params) mg base (CX w) k fa fd [x] (sp w))
    (hsp : ∀ (w : World) (H : Hp) (a : Addr) (ns : List Int), ns.length ≤ n → Only H → SqL (K w.params) H a (ns.map V.int) → sp w [.ref a] H (fun v _ => v = .bl true) fun _ _ _ => False)
    (hCX : ∀ (w : World) (H : Hp) (s : Shared) (e : Value) (s' : Shared), CX w [] H s (fun _ _ _ => False) e s' → False) :
    PySem.W.WalkO q loose XP YP l.row.toRowW d [] (fun f vs => PySem.call f vs) := by
  refine Att.attach_call hn hdf fun w s₀ s₁ mg mb fa o pm cd doc a vs ns G Y ho hd hcd hmg hobj hints hlen hg => ?_
  obtain ⟨fd, hb, hF⟩ := F w mg fa _ (hY w _ Y) G.T.g hmg
  exact law_callG (hY w _ Y) G.T.g G.T.b G.T.builtins G.T.nolimit hg hobj hints (Nat.le_trans hlen hn2) hr hF hb (fun H hO hS => hsp w H a ns hlen hO hS) fun H e s' => hCX w H s₁ e s'
end Gd
/-! ### repr of what is tracked: None, bools, ints, texts, lists, tuples and dicts of them -/
namespace Gd
open PySem PySem.Spec PyProof.Rows L2 PySem.Builtin.List
def keyText : Key → Str
  | .inl i => ((toString i : String) : Str)
  | .inr x => reprText x
def keyFits : Key → Prop
  | .inl i => i.natAbs.log2 < 1920
  | .inr x => (reprText x).length ≤ sizeLine
/-- a plain value and its text -/
inductive Sc : V → Str → Prop where
  | non : Sc .non "None"
  | bl (b : Bool) : Sc (.bl b) (if b then "True" else "False")
  | int (i : Int) (h : i.natAbs.log2 < 1920) : Sc (.int i) ((toString i : String) : Str)
  | str (x : Str) (h : (reprText x).length ≤ sizeLine) : Sc (.str x) (reprText x)
/-- v is shown as t: nested at most n deep -/
def Sh (H : Hp) : Nat → V → Str → Prop
  | 0, v, t => Sc v t
  | n + 1, v, t => Sc v t ∨ (∃ a xs ts, v = .ref a ∧ H a = some (.lst xs) ∧ Paired (Sh H n) xs ts ∧ t = listText ts) ∨
      (∃ a xs ts, v = .ref a ∧ H a = some (.tup xs) ∧ Paired (Sh H n) xs ts ∧ t = tupleText ts) ∨
      ∃ a kvs ts, v = .ref a ∧ H a = some (.dK kvs) ∧ Paired (fun (p : Key × V) t => keyFits p.1 ∧ Sh H n p.2 t) kvs ts ∧ t = dictText (List.zipWith (fun (p : Key × V) t => keyText p.1 ++ ": " ++ t) kvs ts)
theorem Sh.sc {H : Hp} {n : Nat} {v : V} {t : Str} (h : Sc v t) : Sh H n v t := by
  cases n with
  | zero => exact h
  | succ n => exact .inl h
theorem Sh.lst {H : Hp} {n : Nat} {a : Addr} {xs : List V} {ts : List Str} (e : H a = some (.lst xs)) (h : Paired (Sh H n) xs ts) : Sh H (n + 1) (.ref a) (listText ts) := .inr (.inl ⟨a, xs, ts, rfl, e, h, rfl⟩)
theorem Sh.tup {H : Hp} {n : Nat} {a : Addr} {xs : List V} {ts : List Str} (e : H a = some (.tup xs)) (h : Paired (Sh H n) xs ts) : Sh H (n + 1) (.ref a) (tupleText ts) := .inr (.inr (.inl ⟨a, xs, ts, rfl, e, h, rfl⟩))
theorem Sh.dK {H : Hp} {n : Nat} {a : Addr} {kvs : List (Key × V)} {ts : List Str} (e : H a = some (.dK kvs)) (h : Paired (fun (p : Key × V) t => keyFits p.1 ∧ Sh H n p.2 t) kvs ts) :
    Sh H (n + 1) (.ref a) (dictText (List.zipWith (fun (p : Key × V) t => keyText p.1 ++ ": " ++ t) kvs ts)) := .inr (.inr (.inr ⟨a, kvs, ts, rfl, e, h, rfl⟩))
theorem Sc.det {v : V} {t t' : Str} (h : Sc v t) (h' : Sc v t') : t = t' := by
  cases h <;> cases h' <;> rfl
theorem Sc.noRef {a : Addr} {t : Str} (h : Sc (.ref a) t) : False := nomatch h
theorem paired_det {α : Type} {F G : α → Str → Prop} (k : ∀ a t t', F a t → G a t' → t = t') : ∀ {xs : List α} {ts ts' : List Str}, Paired F xs ts → Paired G xs ts' → ts = ts'
  | _, _, _, .nil, .nil => rfl
  | _, _, _, .cons h r, .cons h' r' => by rw [k _ _ _ h h', paired_det k r r']
/-- the text is one -/
theorem Sh.det {H : Hp} : ∀ (n : Nat) (v : V) (t : Str), Sh H n v t → ∀ (m : Nat) (t' : Str), Sh H m v t' → t = t'
  | 0, v, t, h, 0, t', h' => Sc.det h h'
  | 0, v, t, h, m + 1, t', h' => by
    rcases h' with h' | ⟨a, _, _, rfl, _⟩ | ⟨a, _, _, rfl, _⟩ | ⟨a, _, _, rfl, _⟩
    · exact Sc.det h h'
    all_goals exact (Sc.noRef h).elim
  | n + 1, v, t, h, 0, t', h' => by
    rcases h with h | ⟨a, _, _, rfl, _⟩ | ⟨a, _, _, rfl, _⟩ | ⟨a, _, _, rfl, _⟩
    · exact Sc.det h h'
    all_goals exact (Sc.noRef h').elim
  | n + 1, v, t, h, m + 1, t', h' => by
    rcases h with h | ⟨a, xs, ts, rfl, e, p, rfl⟩ | ⟨a, xs, ts, rfl, e, p, rfl⟩ | ⟨a, xs, ts, rfl, e, p, rfl⟩
    · rcases h' with h' | ⟨a, _, _, rfl, _⟩ | ⟨a, _, _, rfl, _⟩ | ⟨a, _, _, rfl, _⟩
      · exact Sc.det h h'
      all_goals exact (Sc.noRef h).elim
    · rcases h' with h' | ⟨b, xs', ts', eb, e', p', rfl⟩ | ⟨b, xs', ts', eb, e', p', rfl⟩ | ⟨b, xs', ts', eb, e', p', rfl⟩
      · exact (Sc.noRef h').elim
      all_goals
        cases eb
        rw [e] at e'
        cases e'
      rw [paired_det (fun a t t' q q' => Sh.det n a t q m t' q') p p']
    · rcases h' with h' | ⟨b, xs', ts', eb, e', p', rfl⟩ | ⟨b, xs', ts', eb, e', p', rfl⟩ | ⟨b, xs', ts', eb, e', p', rfl⟩
      · exact (Sc.noRef h').elim
      all_goals
        cases eb
        rw [e] at e'
        cases e'
      rw [paired_det (fun a t t' q q' => Sh.det n a t q m t' q') p p']
    · rcases h' with h' | ⟨b, xs', ts', eb, e', p', rfl⟩ | ⟨b, xs', ts', eb, e', p', rfl⟩ | ⟨b, xs', ts', eb, e', p', rfl⟩
      · exact (Sc.noRef h').elim
      all_goals
        cases eb
        rw [e] at e'
        cases e'
      rw [paired_det (fun a t t' q q' => Sh.det n a.2 t q.2 m t' q'.2) p p']
theorem Sh.keep {H H' : Hp} (k : ∀ a o, H a = some o → H' a = some o) : ∀ (n : Nat) (v : V) (t : Str), Sh H n v t → Sh H' n v t
  | 0, _, _, h => h
  | n + 1, _, _, h => by
    rcases h with h | ⟨a, xs, ts, rfl, e, p, rfl⟩ | ⟨a, xs, ts, rfl, e, p, rfl⟩ | ⟨a, xs, ts, rfl, e, p, rfl⟩
    · exact .inl h
    · exact Sh.lst (k _ _ e) (L2.Paired.mapP p fun x t q => Sh.keep k n x t q)
    · exact Sh.tup (k _ _ e) (L2.Paired.mapP p fun x t q => Sh.keep k n x t q)
    · exact Sh.dK (k _ _ e) (L2.Paired.mapP p fun x t q => ⟨q.1, Sh.keep k n x.2 t q.2⟩)
section
variable {P : Program} {w : World} {H : Hp} {h : Heap}
def Below (H : Hp) (n : Nat) (b : Addr) : Prop := ∃ m, m ≤ n ∧ ∃ t, Sh H m (.ref b) t
theorem all_repr {n : Nat} (ih : ∀ (v : V) (t : Str) (u : Value), Sh H n v t → RelV v u → ∃ bs : List Addr, (∀ b ∈ bs, Below H n b) ∧ ReprK P w bs h n u t) :
    ∀ {xs : List V} {ts : List Str} {us : List Value}, Paired (Sh H n) xs ts → Vals xs us → ∃ bs : List Addr, (∀ b ∈ bs, Below H n b) ∧ ReprAllK P w bs h n us ts
  | _, _, _, .nil, .nil => ⟨[], (fun _ m => nomatch m), .nil⟩
  | _, _, _, .cons p q, .cons r s => by
    obtain ⟨b1, h1, k1⟩ := ih _ _ _ p r
    obtain ⟨b2, h2, k2⟩ := all_repr ih q s
    exact ⟨b1 ++ b2, fun b m => (List.mem_append.mp m).elim (h1 b) (h2 b), .cons (k1.more fun b m => List.mem_append_left _ m) (k2.more_le (fun b m => List.mem_append_right _ m) (Nat.le_refl _))⟩
theorem key_repr {k : Key} {v : Value} (e : keyIs k v = true) (f : keyFits k) (bs : List Addr) (n : Nat) : ReprK P w bs h n v (keyText k) := by
  rcases keyIs_shape e with ⟨i, t, rfl, rfl⟩ | ⟨x, t, rfl, rfl⟩
  · exact .of_is (ReprIs.int t f) _ _ _
  · exact .of_is (ReprIs.str x t f) _ _ _
theorem ReprEntriesK.wider {as as' : List Addr} {d : Nat} (sub : ∀ b ∈ as, b ∈ as') : ∀ {l : List DictEntry} {ts : List Str}, ReprEntriesK P w as h d l ts → ReprEntriesK P w as' h d l ts
  | _, _, .nil => .nil
  | _, _, .cons a b r => .cons (a.more sub) (b.more sub) (ReprEntriesK.wider sub r)
theorem entries_repr {n : Nat} (ih : ∀ (v : V) (t : Str) (u : Value), Sh H n v t → RelV v u → ∃ bs : List Addr, (∀ b ∈ bs, Below H n b) ∧ ReprK P w bs h n u t) :
    ∀ {kvs : List (Key × V)} {ts : List Str} {ws : List (Key × Value)} {es : List DictEntry}, Paired (fun (p : Key × V) t => keyFits p.1 ∧ Sh H n p.2 t) kvs ts → KV kvs ws → Pairs (mixKind P w) es ws →
      ∃ bs : List Addr, (∀ b ∈ bs, Below H n b) ∧ ReprEntriesK P w bs h n es (List.zipWith (fun (p : Key × V) t => keyText p.1 ++ ": " ++ t) kvs ts)
  | _, _, _, _, .nil, .nil, .nil => ⟨[], (fun _ m => nomatch m), .nil⟩
  | _, _, _, _, .cons p q, .cons r s, .cons (e := e) a b c => by
    obtain ⟨b1, h1, k1⟩ := ih _ _ _ p.2 r.2
    obtain ⟨b2, h2, k2⟩ := entries_repr ih q s c
    refine ⟨b1 ++ b2, fun b m => (List.mem_append.mp m).elim (h1 b) (h2 b), ?_⟩
    refine .cons (key_repr (by rw [r.1]; exact a) p.1 _ _) ?_ (ReprEntriesK.wider (fun b m => List.mem_append_right _ m) k2)
    rw [b]
    exact k1.more fun b m => List.mem_append_left _ m
/-- whatever is tracked and is shown as t gives t to repr -/
theorem repr_sh (ok : HOk P w H h) (n : Nat) : ∀ (v : V) (t : Str) (u : Value), Sh H n v t → RelV v u → ∃ bs : List Addr, (∀ b ∈ bs, Below H n b) ∧ ReprK P w bs h n u t := by
  induction n using Nat.strongRecOn with
  | ind n IH =>
    intro v t u hv r
    have plain : Sc v t → ∃ bs : List Addr, (∀ b ∈ bs, Below H n b) ∧ ReprK P w bs h n u t := fun c => by
      refine ⟨[], (fun _ m => nomatch m), ?_⟩
      cases c with
      | non =>
        cases (show u = Value.none from r)
        exact .of_is ReprIs.none _ _ _
      | bl b =>
        cases (show u = Value.bool b from r)
        exact .of_is (ReprIs.bool b) _ _ _
      | int i f =>
        obtain ⟨t, rfl⟩ := (show ∃ t, u = Value.int i t from r)
        exact .of_is (ReprIs.int t f) _ _ _
      | str x f =>
        obtain ⟨t, rfl⟩ := (show ∃ t, u = Value.str x t from r)
        exact .of_is (ReprIs.str x t f) _ _ _
    cases n with
    | zero => exact plain hv
    | succ n =>
      have ih := IH n (Nat.lt_succ_self n)
      -- a ring can't be: what is below has the same text at a lower level
      have ring : ∀ (a : Addr) (bs : List Addr), v = .ref a → (∀ b ∈ bs, Below H n b) → a ∈ bs → ∃ bs : List Addr, (∀ b ∈ bs, Below H (n + 1) b) ∧ ReprK P w bs h (n + 1) u t := fun a bs e hb m => by
        obtain ⟨m, hm, t', ht⟩ := hb a m
        subst e
        have et : t = t' := Sh.det _ _ _ hv _ _ ht
        subst et
        obtain ⟨cs, hc, k⟩ := IH m (by omega) _ _ _ ht r
        exact ⟨cs, fun b q => let ⟨l, hl, x⟩ := hc b q; ⟨l, by omega, x⟩, k.level_le (by omega)⟩
      rcases id hv with c | ⟨a, xs, ts, rfl, e, p, rfl⟩ | ⟨a, xs, ts, rfl, e, p, rfl⟩ | ⟨a, kvs, ts, rfl, e, p, rfl⟩
      · exact plain c
      · cases (show u = Value.ref a from r)
        obtain ⟨_, its, m, rv, ho⟩ := (show ObjOk P w H h a (.lst xs) from ok a _ e)
        obtain ⟨bs, hb, hk⟩ := all_repr ih p rv
        by_cases c : a ∈ bs
        · exact ring a bs rfl hb c
        · refine ⟨a :: bs, fun b q => ?_, ?_⟩
          · rcases List.mem_cons.mp q with rfl | q
            · exact ⟨n + 1, Nat.le_refl _, _, hv⟩
            · obtain ⟨l, hl, x⟩ := hb b q
              exact ⟨l, by omega, x⟩
          · cases its with
            | nil =>
              cases hk
              rw [listText_nil]
              exact ReprK.listEmpty ho rfl rfl
            | cons x l => exact ReprK.list ho rfl rfl c (by simpa using hk.length_eq) (fun i y q => hk.item i y (by simpa using q))
      · cases (show u = Value.ref a from r)
        obtain ⟨_, its, rv, o, ho, hc, m, hd⟩ := (show ObjOk P w H h a (.tup xs) from ok a _ e)
        obtain ⟨bs, hb, hk⟩ := all_repr ih p rv
        by_cases c : a ∈ bs
        · exact ring a bs rfl hb c
        · refine ⟨a :: bs, fun b q => ?_, ReprK.tuple ho hc hd c (by simpa using hk)⟩
          rcases List.mem_cons.mp q with rfl | q
          · exact ⟨n + 1, Nat.le_refl _, _, hv⟩
          · obtain ⟨l, hl, x⟩ := hb b q
            exact ⟨l, by omega, x⟩
      · cases (show u = Value.ref a from r)
        obtain ⟨_, ys, ws, rv, o, es, ep, ho, hc, hd, _, hp, _⟩ := (show ObjOk P w H h a (.dK kvs) from ok a _ e)
        obtain ⟨bs, hb, hk⟩ := entries_repr ih p rv hp
        by_cases c : a ∈ bs
        · exact ring a bs rfl hb c
        · refine ⟨a :: bs, fun b q => ?_, ReprK.dict ho hc.1 hd ys c hk⟩
          rcases List.mem_cons.mp q with rfl | q
          · exact ⟨n + 1, Nat.le_refl _, _, hv⟩
          · obtain ⟨l, hl, x⟩ := hb b q
            exact ⟨l, by omega, x⟩
/-- repr(v) -/
theorem call_sh (ok : HOk P w H h) (n : Nat) : ∀ (v : V) (t : Str) (u : Value), Sh H n v t → RelV v u → t.length ≤ sizeLine → ∀ (A : Around) (E : Value → Shared → Prop) (s : Shared) (Q : Value → Shared → Prop), A.guards = some [] → A.units + (n + 1) < cLine → s.heap = h →
    (∀ h' z tk, (∀ b o, s.heap.get? b = some o → h'.get? b = some o) → Q (.str t z) { s with heap := h', toks := tk }) → wpAny (model P w) A (call (.builtin "repr") [u]) Q E s := by
  induction n using Nat.strongRecOn with
  | ind n IH =>
    intro v t u hv r hz A E s Q hg hu eh hQ
    subst eh
    have plain : Sc v t → wpAny (model P w) A (call (.builtin "repr") [u]) Q E s := fun c => by
      cases c with
      | non =>
        cases (show u = Value.none from r)
        exact PySem.P.repr_of_none (hQ s.heap _ _ fun _ _ e => e)
      | bl b =>
        cases (show u = Value.bool b from r)
        exact PySem.P.repr_of_bool (by
          have q := hQ s.heap s.toks (s.toks + 1) fun _ _ e => e
          cases b <;> exact q)
      | int i f =>
        obtain ⟨t, rfl⟩ := (show ∃ t, u = Value.int i t from r)
        exact PySem.P.repr_of_int f (hQ s.heap _ _ fun _ _ e => e)
      | str x f =>
        obtain ⟨t, rfl⟩ := (show ∃ t, u = Value.str x t from r)
        exact PySem.P.repr_of_str (hQ s.heap _ _ fun _ _ e => e) f
    cases n with
    | zero => exact plain hv
    | succ n =>
      have ih := fun v t u => repr_sh (P := P) (w := w) ok n v t u
      have ring : ∀ (a : Addr) (bs : List Addr), v = .ref a → (∀ b ∈ bs, Below H n b) → a ∈ bs → wpAny (model P w) A (call (.builtin "repr") [u]) Q E s := fun a bs e hb m => by
        obtain ⟨m, hm, t', ht⟩ := hb a m
        subst e
        have et : t = t' := Sh.det _ _ _ hv _ _ ht
        subst et
        exact IH m (by omega) _ _ _ ht r hz A E s Q hg (by omega) rfl hQ
      have hu1 : A.in1.units + (n + 1) < cLine := by
        show A.units + 1 + (n + 1) < cLine
        omega
      have hk0 : ∀ b o, s.heap.get? b = some o → s.heap.get? b = some o := fun _ _ e => e
      rcases id hv with c | ⟨a, xs, ts, rfl, e, p, rfl⟩ | ⟨a, xs, ts, rfl, e, p, rfl⟩ | ⟨a, kvs, ts, rfl, e, p, rfl⟩
      · exact plain c
      · cases (show u = Value.ref a from r)
        obtain ⟨_, its, m, rv, ho⟩ := (show ObjOk P w H s.heap a (.lst xs) from ok a _ e)
        obtain ⟨bs, hb, hk⟩ := all_repr ih p rv
        by_cases c : a ∈ bs
        · exact ring a bs rfl hb c
        · refine call_repr_slot (by omega) (T := "list") ⟨_, ho, rfl⟩ F.slot_list_repr.toG ?_
          cases its with
          | nil =>
            cases hk
            rw [listText_nil] at hQ
            exact call_list_repr_empty ⟨_, ho, rfl⟩ ho rfl ⟨_, _, rfl, hQ s.heap _ _ fun _ _ e => e⟩
          | cons x l =>
            exact call_list_reprK ho rfl rfl c (by simpa using hk.length_eq) (fun i y q => hk.item i y (by simpa using q)) (A := A.in1) hg (fun b _ => Clear.nil b) hu1 hk0 (fun h' z tk k => ⟨_, _, rfl, hQ h' z tk k⟩) hz
      · cases (show u = Value.ref a from r)
        obtain ⟨_, its, rv, o, ho, hc, m, hd⟩ := (show ObjOk P w H s.heap a (.tup xs) from ok a _ e)
        obtain ⟨bs, hb, hk⟩ := all_repr ih p rv
        by_cases c : a ∈ bs
        · exact ring a bs rfl hb c
        · exact call_repr_slot (by omega) (T := "tuple") ⟨_, ho, hc⟩ F.slot_tuple_repr (call_tuple_reprK ho hc hd c (by simpa using hk) (A := A.in1) hg (fun b _ => Clear.nil b) hu1 hk0 (fun h' z tk k => ⟨_, _, rfl, hQ h' z tk k⟩) hz)
      · cases (show u = Value.ref a from r)
        obtain ⟨_, ys, ws, rv, o, es, ep, ho, hc, hd, _, hp, _⟩ := (show ObjOk P w H s.heap a (.dK kvs) from ok a _ e)
        obtain ⟨bs, hb, hk⟩ := entries_repr ih p rv hp
        by_cases c : a ∈ bs
        · exact ring a bs rfl hb c
        · exact call_repr_slot (by omega) (T := "dict") ⟨_, ho, hc.1⟩ F.slot_dict_repr (call_dict_reprK ho hc.1 hd ys c hk (A := A.in1) hg (fun b _ => Clear.nil b) hu1 hk0 (fun h' z tk k => ⟨_, _, rfl, hQ h' z tk k⟩) hz)
end
section
variable {X : Cx}
def rRepr : List V → Hp → VK → Prop := fun vs H Q => ∃ (v : V) (n : Nat) (t : Str), vs = [v] ∧ Sh H n v t ∧ n ≤ 50 ∧ t.length ≤ sizeLine ∧ Q (.str t) H
theorem call_repr (gd : X.A.guards = some []) (hu : X.A.units + 64 < cLine) : CallR X (.builtin "repr") rRepr := by
  intro pins s σ H vs us Q I r h
  obtain ⟨v, n, t, rfl, hv, hn, hz, q⟩ := h
  obtain ⟨u, rfl, ru⟩ := vals1 r
  exact call_sh I.hok n v t u hv ru hz X.A _ s _ gd (by omega) rfl fun h' z tk k => ⟨.str t, H, I.kept k, ⟨z, rfl⟩, q⟩
end
end Gd
/-! ### the dice: the law's own drawn numbers -/
namespace Pr
open PySem PySem.Spec PyProof.Rows L2
/-- all that was tracked, but the object at d, is as it was -/
def Kp (d : Addr) (H H' : Hp) : Prop := ∀ b o, b ≠ d → H b = some o → H' b = some o
theorem Kp.refl (d : Addr) (H : Hp) : Kp d H H := fun _ _ _ h => h
theorem Kp.trans {d : Addr} {H H1 H2 : Hp} (a : Kp d H H1) (b : Kp d H1 H2) : Kp d H H2 := fun c o n h => b c o n (a c o n h)
theorem Kp.upd {d : Addr} {H : Hp} {o : HO} : Kp d H (upd H d o) := fun b u n h => by rw [upd_ne n]; exact h
theorem Kp.new {d p : Addr} {H : Hp} {o : HO} (n : H p = none) : Kp d H (L2.upd H p o) := fun b u _ h => by rw [upd_ne (ne_of_none h n)]; exact h
theorem Kp.same {d : Addr} {H H' : Hp} (s : Same H H') : Kp d H H' := fun b o _ h => s b o h
theorem Same.new {p : Addr} {H : Hp} {o : HO} (n : H p = none) : Same H (L2.upd H p o) := fun b u h => by rw [upd_ne (ne_of_none h n)]; exact h
/-- d is new and then written -/
theorem Kp.over {d : Addr} {H H1 H2 : Hp} (n : H d = none) (s : Same H H1) (k : Kp d H1 H2) : Same H H2 := fun b o h => k b o (ne_of_none h n) (s b o h)
theorem Kp.seq {K : PySem.W.Frag} {d a : Addr} {H H' : Hp} {xs : List V} (k : Kp d H H') (n : a ≠ d) (h : SqL K H a xs) : SqL K H' a xs := by
  rcases h with (h | ⟨o, h⟩) | h
  · exact .inl (.inl (k _ _ n h))
  · exact .inl (.inr ⟨o, k _ _ n h⟩)
  · exact .inr h
/-- the dice that stand at d: what is left of the cell's number, the seed, the number of draws (at most n) -/
structure Dice (H : Hp) (d : Addr) (n : Nat) : Prop where
  at_ : ∃ x y c : Int, H d = some (.lst [.int x, .int y, .int c]) ∧ 0 ≤ x ∧ x < 2 ^ 400 ∧ 0 ≤ y ∧ y < 2 ^ 40 ∧ 0 ≤ c ∧ c ≤ n
  few : n ≤ 1000000
theorem Dice.kept {H H' : Hp} {d : Addr} {n : Nat} (D : Dice H d n) (s : ∀ o, H d = some o → H' d = some o) : Dice H' d n := by
  obtain ⟨⟨x, y, c, e, r⟩, f⟩ := D
  exact ⟨⟨x, y, c, s _ e, r⟩, f⟩
theorem Dice.same {H H' : Hp} {d : Addr} {n : Nat} (D : Dice H d n) (s : Same H H') : Dice H' d n := D.kept fun o e => s _ o e
theorem Dice.more {H : Hp} {d : Addr} {n m : Nat} (D : Dice H d n) (h : n ≤ m) (hm : m ≤ 1000000) : Dice H d m := by
  obtain ⟨⟨x, y, c, e, r1, r2, r3, r4, r5, r6⟩, f⟩ := D
  exact ⟨⟨x, y, c, e, r1, r2, r3, r4, r5, by omega⟩, hm⟩
theorem Dice.there {H : Hp} {d : Addr} {n : Nat} (D : Dice H d n) : ∃ xs, H d = some (.lst xs) := by
  obtain ⟨⟨x, y, c, e, _⟩, _⟩ := D
  exact ⟨_, e⟩
def spDice (K : PySem.W.Frag) : Sp := fun vs H Q _ => ∃ (a : Addr) (ns : List Int) (i : Nat), vs = [.ref a, .int i] ∧ SqL K H a (ns.map V.int) ∧ i < 64 ∧
  ∀ (d : Addr) (H' : Hp), H d = none → Same H H' → Dice H' d 0 → Q (.ref d) H'
def spRoll : Sp := fun vs H Q _ => ∃ (d : Addr) (t : Int) (n : Nat), vs = [.ref d, .int t] ∧ Dice H d n ∧ n < 1000000 ∧ 0 < t ∧ t < 2 ^ 400 ∧
  ∀ (r : Int) (o : HO), 0 ≤ r → r < t → Dice (upd H d o) d (n + 1) → Q (.int r) (upd H d o)
def spPick (K : PySem.W.Frag) : Sp := fun vs H Q _ => ∃ (d p : Addr) (n : Nat) (xs : List V), vs = [.ref d, .ref p] ∧ p ≠ d ∧ (SqL K H p xs ∨ SqT K H p xs) ∧ xs ≠ [] ∧ xs.length ≤ 1000 ∧ Dice H d n ∧ n < 1000000 ∧
  ∀ (v : V) (o : HO), v ∈ xs → Dice (upd H d o) d (n + 1) → Q v (upd H d o)
def spMixed (K : PySem.W.Frag) : Sp := fun vs H Q _ => ∃ (d p : Addr) (n : Nat) (xs : List V), vs = [.ref d, .ref p] ∧ p ≠ d ∧ SqL K H p xs ∧ xs.length ≤ 1000 ∧ Dice H d n ∧ n + xs.length < 1000000 ∧
  ∀ (q : Addr) (ys : List V) (H' : Hp), q ≠ d → H q = none → Kp d H H' → H' q = some (.lst ys) → ys.Perm xs → Dice H' d (n + xs.length) → Q (.ref q) H'
theorem fmod_pos {i j : Int} (h : 0 < j) : 0 ≤ i.fmod j ∧ i.fmod j < j := ⟨Int.fmod_nonneg_of_pos _ h, Int.fmod_lt_of_pos _ h⟩
theorem emod_pos {i j : Int} (h : 0 < j) : 0 ≤ i % j ∧ i % j < j := ⟨Int.emod_nonneg _ (by omega), Int.emod_lt_of_pos _ h⟩
theorem c10 {k : Nat} (h : k ≤ 1000000) : CPow 10 (k : Int) := ⟨by omega, by omega, by decide⟩
end Pr
namespace Pr
open PySem PySem.Spec PyProof.Rows L2
/-! ### the text by places -/
def topS (i : Nat) : Stmt := PySem.Challenge.pw_munchbehind_k01_words_judged.main.body.getD i (.Pass ⟨0, 0, 0, 0⟩)
abbrev sInteger : Stmt := topS 3
abbrev sCount : Stmt := topS 4
abbrev sName : Stmt := topS 5
abbrev sNames : Stmt := topS 6
abbrev sDice : Stmt := topS 8
abbrev sRoll : Stmt := topS 9
abbrev sPick : Stmt := topS 10
abbrev sMixed : Stmt := topS 11
abbrev sOdd : Stmt := topS 12
abbrev sNamed : Stmt := topS 13
abbrev sWhole : Stmt := topS 14
abbrev sNearW : Stmt := topS 15
abbrev sNearN : Stmt := topS 16
abbrev sRight : Stmt := topS 17
abbrev sLaw : Stmt := topS 18
/-- the built-in names that the module leaves alone -/
structure Free (mg : Str → Option Value) : Prop where
  len : mg "len" = none
  int : mg "int" = none
  abs : mg "abs" = none
  max : mg "max" = none
  min : mg "min" = none
  list : mg "list" = none
  range : mg "range" = none
  isi : mg "isinstance" = none
  bool : mg "bool" = none
  tuple : mg "tuple" = none
  str : mg "str" = none
  repr : mg "repr" = none
  all : mg "all" = none
end Pr
namespace Pr
open PySem PySem.Spec PyProof.Rows L2
theorem dice_end (l g : Int) (b : Int) {i : Nat} (hi : i < 64) (hb : 0 ≤ b ∧ b ≤ 1) :
    0 ≤ l.fmod (10 ^ (60 : Int).toNat * 10 ^ (60 : Int).toNat) ∧ l.fmod (10 ^ (60 : Int).toNat * 10 ^ (60 : Int).toNat) < 2 ^ 400 ∧
    0 ≤ g % 2147483563 * 41 + 613 * (i : Int) + 17 * b + 7 ∧ g % 2147483563 * 41 + 613 * (i : Int) + 17 * b + 7 < 2 ^ 40 ∧ (0 : Int) ≤ 0 ∧ (0 : Int) ≤ (0 : Nat) := by
  have h1 := fmod_pos (i := l) (j := 10 ^ (60 : Int).toNat * 10 ^ (60 : Int).toNat) (by decide +kernel)
  have h2 : (10 ^ (60 : Int).toNat * 10 ^ (60 : Int).toNat : Int) < 2 ^ 400 := by decide +kernel
  have h3 := emod_pos (i := g) (j := 2147483563) (by decide)
  refine ⟨h1.1, Int.lt_trans h1.2 h2, by omega, by omega, by omega, by omega⟩
section
variable {P : Program} {w : World} {K : PySem.W.Frag} {mg : Str → Option Value} {base : Heap}
theorem scDice : FnScope ["script", "spot", "cell", "great", "left"] ["script", "spot"] (defScope sDice) := ⟨rfl, rfl, rfl, by decide +kernel, rfl, by decide +kernel, by decide +kernel⟩
theorem ok_dice {f : Addr} {fd : FuncData} (F : Fun K "_law_dice" "_law_dice" sDice f fd) (T : Free mg) : FnOk P w K mg base CX0 1 f fd ["script", "spot"] (spDice K) := by
  refine F.ok scDice (fun vs H Q E h => ?_) (fun cdv A outer s H vs Q E hr h => ?_)
  · obtain ⟨a, ns, i, rfl, _⟩ := h
    rfl
  · obtain ⟨a, ns, i, rfl, hS, hi, k⟩ := h
    refine ⟨_, pss_cons (ps_set (i := 2) scDice.nd rfl (.inl rfl) (pe_ifExp (pt_cmpR op_lt (pv 1) (pe_callB call_len_seq (by rfl) T.len PySem.boot_len (pa_cons (pv 0) pa_nil)) (nomark _))
        (pe_callTy call_int1 (by rfl) T.int (by decide +kernel) (pa_cons (pe_ix ix_list (pv 0) (pv 1) (fun _ _ => rfl)) pa_nil)) (pe_op op_add (pe_op op_mul pe_int (pv 1)) pe_int)))
      (pss_cons (ps_set (i := 3) scDice.nd rfl (.inl rfl) (pe_op op_modN (pe_callB call_abs (by rfl) T.abs (by decide +kernel) (pa_cons (pv 2) pa_nil)) (pe_op op_pow pe_int pe_int)))
      (pss_cons (ps_set (i := 4) scDice.nd rfl (.inl rfl) (pe_callB (call_max2 rfl) (by rfl) T.max (by decide +kernel) (pa_cons pe_int (pa_cons (pe_op op_sub (pe_callB call_abs (by rfl) T.abs (by decide +kernel) (pa_cons (pv 2) pa_nil)) (pe_op op_pow pe_int pe_int)) pa_nil))))
      (pss_one (ps_ret (pe_lst (pa_cons (pe_op op_modN (pv 4) (pe_op op_mulW (pe_op op_pow pe_int pe_int) (pe_op op_pow pe_int pe_int)))
        (pa_cons (pe_op op_add (pe_op op_add (pe_op op_add (pe_op op_mul (pe_op op_mod (pv 3) pe_int) pe_int) (pe_op op_mul pe_int (pv 1)))
          (pe_op op_mul pe_int (pe_callTy call_int1 (by rfl) T.int (by decide +kernel) (pa_cons (pe_cmpR op_lt (pv 2) pe_int (nomark _)) pa_nil)))) pe_int) (pa_cons pe_int pa_nil)))))))), ?_⟩
    refine ⟨_, rfl, _, rfl, a, _, rfl, .inl hS, _, _, rfl, rfl, _, rfl, ?_⟩
    refine ite2 (fun c => ?_) (fun c => ?_)
    · have hlt : i < ns.length := by
        have c' := of_decide_eq_true c
        rw [List.length_map] at c'
        omega
      have g : (ns.map V.int)[i]? = some (.int ns[i]) := by
        rw [List.getElem?_map, List.getElem?_eq_getElem hlt]
        rfl
      refine ⟨_, rfl, _, rfl, a, _, _, _, rfl, rfl, hS, atI_nat g, .inl ⟨_, rfl, ?_⟩⟩
      refine ⟨_, rfl, _, rfl, 10, 59, rfl, rfl, c10 (k := 59) (by decide), _, _, rfl, rfl, (by dsimp only; decide +kernel), ?_⟩
      refine ⟨_, rfl, _, rfl, 10, 17, rfl, rfl, c10 (k := 17) (by decide), _, _, rfl, rfl, _, _, rfl, ?_⟩
      refine ⟨_, rfl, 10, 60, rfl, rfl, c10 (k := 60) (by decide), 10, 60, rfl, rfl, c10 (k := 60) (by decide), _, _, rfl, rfl, wide_mul (a := 400) (b := 400) (by decide +kernel) (by decide +kernel) (by decide) (by decide) (by decide), _, _, rfl, rfl, (by dsimp only; decide +kernel), ?_⟩
      refine ⟨_, rfl, _, _, rfl, rfl, (by dsimp only; decide), _, _, rfl, rfl, .inr ⟨by decide, by decide⟩, _, rfl, _, _, rfl, rfl, .inl ⟨by decide, by decide⟩, _, _, rfl, rfl, _, rfl, _, _, rfl, rfl, .inr ⟨_, rfl, ?_⟩⟩
      refine ⟨_, _, rfl, rfl, .inl ⟨by decide, by decide⟩, _, _, rfl, rfl, _, _, rfl, rfl, (by show 3 ≤ sizeLine; decide), fun d hd => ?_⟩
      refine k d _ hd (Same.new hd) ⟨⟨_, _, 0, upd_same, ?_⟩, by decide⟩
      refine dice_end _ _ _ hi ?_
      split <;> omega
    · refine ⟨_, rfl, _, _, rfl, rfl, .inl ⟨by decide, by decide⟩, _, _, rfl, rfl, ?_⟩
      refine ⟨_, rfl, _, rfl, 10, 59, rfl, rfl, c10 (k := 59) (by decide), _, _, rfl, rfl, (by dsimp only; decide +kernel), ?_⟩
      refine ⟨_, rfl, _, rfl, 10, 17, rfl, rfl, c10 (k := 17) (by decide), _, _, rfl, rfl, _, _, rfl, ?_⟩
      refine ⟨_, rfl, 10, 60, rfl, rfl, c10 (k := 60) (by decide), 10, 60, rfl, rfl, c10 (k := 60) (by decide), _, _, rfl, rfl, wide_mul (a := 400) (b := 400) (by decide +kernel) (by decide +kernel) (by decide) (by decide) (by decide), _, _, rfl, rfl, (by dsimp only; decide +kernel), ?_⟩
      refine ⟨_, rfl, _, _, rfl, rfl, (by dsimp only; decide), _, _, rfl, rfl, .inr ⟨by decide, by decide⟩, _, rfl, _, _, rfl, rfl, .inl ⟨by decide, by decide⟩, _, _, rfl, rfl, _, rfl, _, _, rfl, rfl, .inr ⟨_, rfl, ?_⟩⟩
      refine ⟨_, _, rfl, rfl, .inl ⟨by decide, by decide⟩, _, _, rfl, rfl, _, _, rfl, rfl, (by show 3 ≤ sizeLine; decide), fun d hd => ?_⟩
      refine k d _ hd (Same.new hd) ⟨⟨_, _, 0, upd_same, ?_⟩, by decide⟩
      refine dice_end _ _ _ hi ?_
      split <;> omega
end
end Pr
namespace Pr
open PySem PySem.Spec PyProof.Rows L2
theorem div_le {x t : Int} (h0 : 0 ≤ x) (ht : 0 < t) : 0 ≤ x / t ∧ x / t ≤ x := ⟨Int.ediv_nonneg h0 (by omega), Int.ediv_le_self _ h0⟩
theorem mod2 {x y : Int} (h : 0 ≤ x) (a : 0 < y) : 0 ≤ x.fmod y ∧ x.fmod y < y := fmod_pos a
section
variable {P : Program} {w : World} {K : PySem.W.Frag} {mg : Str → Option Value} {base : Heap}
theorem scRoll : FnScope ["dice", "total", "found", "one", "two"] ["dice", "total"] (defScope sRoll) := ⟨rfl, rfl, rfl, by decide +kernel, rfl, by decide +kernel, by decide +kernel⟩
theorem ok_roll {f : Addr} {fd : FuncData} (F : Fun K "_law_roll" "_law_roll" sRoll f fd) (T : Free mg) : FnOk P w K mg base CX0 1 f fd ["dice", "total"] spRoll := by
  refine F.ok scRoll (fun vs H Q E h => ?_) (fun cdv A outer s H vs Q E hr h => ?_)
  · obtain ⟨d, t, n, rfl, _⟩ := h
    rfl
  · obtain ⟨d, t, n, rfl, ⟨⟨x, y, c, e, x0, x1, y0, y1, c0, c1⟩, fw⟩, hn, t0, t1, k⟩ := h
    have sq : SqL K H d [.int x, .int y, .int c] := SqL.of e
    refine ⟨_, pss_cons (ps_if (pt_cmpR op_gt (pe_ix ix_list (pv 0) pe_int (fun _ _ => rfl)) pe_int (nomark _))
        (pss_cons (ps_set (i := 2) scRoll.nd rfl (.inl rfl) (pe_op op_modN (pe_callTy call_int1 (by rfl) T.int (by decide +kernel) (pa_cons (pe_ix ix_list (pv 0) pe_int (fun _ _ => rfl)) pa_nil)) (pv 1)))
        (pss_cons (ps_asg (pe_op op_fdivW (pe_ix ix_list (pv 0) pe_int (fun _ _ => rfl)) (pv 1)) (pg_sub (pv 0) pe_int set_list))
        (pss_one (ps_ret (pv 2))))) pss_nil)
      (pss_cons (ps_asg (pe_op op_add (pe_ix ix_list (pv 0) pe_int (fun _ _ => rfl)) pe_int) (pg_sub (pv 0) pe_int set_list))
      (pss_cons (ps_set (i := 3) scRoll.nd rfl (.inl rfl) (pe_op op_mod (pe_callTy call_int1 (by rfl) T.int (by decide +kernel)
        (pa_cons (pe_op op_add (pe_ix ix_list (pv 0) pe_int (fun _ _ => rfl)) (pe_op op_mul pe_int (pe_ix ix_list (pv 0) pe_int (fun _ _ => rfl)))) pa_nil)) pe_int))
      (pss_cons (ps_set (i := 4) scRoll.nd rfl (.inl rfl) (pe_op op_add (pe_op op_mul (pe_op op_mod (pe_callTy call_int1 (by rfl) T.int (by decide +kernel)
        (pa_cons (pe_op op_add (pe_op op_mul (pv 3) (pv 3)) (pe_op op_mul pe_int (pe_ix ix_list (pv 0) pe_int (fun _ _ => rfl)))) pa_nil)) pe_int) pe_int) (pv 3)))
      (pss_one (ps_ret (pe_op op_modN (pe_callTy call_int1 (by rfl) T.int (by decide +kernel) (pa_cons (pe_op op_fdiv (pv 4) pe_int) pa_nil)) (pv 1))))))), ?_⟩
    refine ⟨_, rfl, d, _, 0, _, rfl, rfl, sq, rfl, _, _, rfl, rfl, _, rfl, ite2 (fun cx => ?_) (fun cx => ?_)⟩
    · -- what is left of the cell's number
      have r := fmod_pos (i := x) t0
      have q := div_le x0 t0
      refine ⟨_, rfl, d, _, 0, _, rfl, rfl, sq, rfl, .inl ⟨_, rfl, _, rfl, _, _, rfl, rfl, (by dsimp only; omega), ?_⟩⟩
      refine ⟨_, rfl, d, _, 0, _, rfl, rfl, sq, rfl, _, rfl, _, _, rfl, rfl, wide_div (b := 400) t0 (by omega) (by decide) (by decide), _, rfl, d, _, 0, 0, rfl, rfl, e, rfl, _, rfl, ?_⟩
      exact k _ _ r.1 r.2 ⟨⟨_, _, _, upd_same, q.1, by omega, y0, y1, c0, by omega⟩, by omega⟩
    · refine ⟨_, rfl, d, _, 2, _, rfl, rfl, sq, rfl, _, _, rfl, rfl, _, rfl, d, _, 2, 2, rfl, rfl, e, rfl, ?_⟩
      have sq2 : SqL K (upd H d (.lst [.int x, .int y, .int (c + 1)])) d [.int x, .int y, .int (c + 1)] := SqL.of upd_same
      have m1 := emod_pos (i := y + 7901 * (c + 1)) (j := 2305843009213693907) (by decide)
      refine ⟨_, rfl, d, _, 1, _, rfl, rfl, sq2, rfl, _, rfl, d, _, 2, _, rfl, rfl, sq2, rfl, _, _, rfl, rfl, .inl ⟨by decide, by decide⟩, _, _, rfl, rfl, .inl ⟨_, rfl, _, _, rfl, rfl, (by dsimp only; decide), ?_⟩⟩
      have m2 := emod_pos (i := (y + 7901 * (c + 1)) % 2305843009213693907 * ((y + 7901 * (c + 1)) % 2305843009213693907) + 71 * (c + 1)) (j := 2305843009213693921) (by decide)
      refine ⟨_, rfl, _, rfl, _, _, rfl, rfl, .inl ⟨by omega, by omega⟩, _, rfl, d, _, 2, _, rfl, rfl, sq2, rfl, _, _, rfl, rfl, .inl ⟨by decide, by decide⟩, _, _, rfl, rfl, .inl ⟨_, rfl, _, _, rfl, rfl, (by dsimp only; decide), ?_⟩⟩
      refine ⟨_, _, rfl, rfl, .inl ⟨by omega, by omega⟩, _, rfl, _, _, rfl, rfl, ?_⟩
      refine ⟨_, rfl, _, _, rfl, rfl, ⟨by decide, by decide⟩, .inl ⟨_, rfl, _, rfl, _, _, rfl, rfl, (by dsimp only; omega), ?_⟩⟩
      exact k _ _ (fmod_pos t0).1 (fmod_pos t0).2 ⟨⟨_, _, _, upd_same, x0, x1, y0, y1, by omega, by omega⟩, by omega⟩
end
end Pr
namespace Pr
open PySem PySem.Spec PyProof.Rows L2
/-- the law's drawing defs, as they stand behind the top -/
structure Draws (K : PySem.W.Frag) (mg : Str → Option Value) (fR fP fM : Addr) (dR dP dM : FuncData) : Prop where
  FR : Fun K "_law_roll" "_law_roll" sRoll fR dR
  bR : Binds K dR ["dice", "total"] []
  gR : mg "_law_roll" = some (.ref fR)
  FP : Fun K "_law_pick" "_law_pick" sPick fP dP
  bP : Binds K dP ["dice", "items"] []
  gP : mg "_law_pick" = some (.ref fP)
  FM : Fun K "_law_mixed" "_law_mixed" sMixed fM dM
  bM : Binds K dM ["dice", "items"] []
  gM : mg "_law_mixed" = some (.ref fM)
theorem erase_perm {α : Type} : ∀ (l : List α) (i : Nat) (h : i < l.length), (l[i] :: l.eraseIdx i).Perm l
  | [], _, h => absurd h (Nat.not_lt_zero _)
  | a :: l, 0, _ => List.Perm.refl _
  | a :: l, i + 1, h => (List.Perm.swap a (l[i]'(Nat.lt_of_succ_lt_succ h)) (l.eraseIdx i)).trans (List.Perm.cons a (erase_perm l i (Nat.lt_of_succ_lt_succ h)))
section
variable {P : Program} {w : World} {K : PySem.W.Frag} {mg : Str → Option Value} {base : Heap} {fR fP fM : Addr} {dR dP dM : FuncData}
theorem scPick : FnScope ["dice", "items"] ["dice", "items"] (defScope sPick) := ⟨rfl, rfl, rfl, by decide +kernel, rfl, by decide +kernel, by decide +kernel⟩
theorem ok_pick (D : Draws K mg fR fP fM dR dP dM) (T : Free mg) : FnOk P w K mg base CX0 2 fP dP ["dice", "items"] (spPick K) := by
  have GR : FnOk P w K mg base CX0 1 fR dR ["dice", "total"] spRoll := ok_roll D.FR T
  refine D.FP.ok scPick (fun vs H Q E h => ?_) (fun cdv A outer s H vs Q E hr h => ?_)
  · obtain ⟨d, p, n, xs, rfl, _⟩ := h
    rfl
  · obtain ⟨d, p, n, xs, rfl, npd, hS, ne, few, di, hn, k⟩ := h
    refine ⟨_, pss_one (ps_ret (pe_ix ix_seq (pv 1) (pe_call GR hr (by rfl) D.gR D.FR.kp D.bR .nil pass0 (pa_cons (pv 0) (pa_cons (pe_callB call_len_seq (by rfl) T.len PySem.boot_len (pa_cons (pv 1) pa_nil)) pa_nil))) (fun _ _ => rfl))), ?_⟩
    have pos : 0 < xs.length := List.length_pos_iff.mpr ne
    refine ⟨_, rfl, _, rfl, _, rfl, p, xs, rfl, hS, d, _, n, rfl, di, hn, by omega, by omega, fun r o r0 r1 di' => ?_⟩
    have hlt : r.toNat < xs.length := by omega
    have g : atI xs r = some xs[r.toNat] := at_of (j := r.toNat) (by omega) (List.getElem?_eq_getElem hlt)
    have kp : Kp d H (upd H d o) := Kp.upd
    rcases hS with hS | hS
    · exact .inl ⟨p, xs, r, _, rfl, rfl, kp.seq npd hS, g, k _ o (List.getElem_mem hlt) di'⟩
    · have hT : SqT K (upd H d o) p xs := by
        rcases hS with (h | ⟨u, h⟩) | h
        · exact .inl (.inl (kp _ _ npd h))
        · exact .inl (.inr ⟨u, kp _ _ npd h⟩)
        · exact .inr h
      exact .inr (.inl ⟨p, xs, r, _, rfl, rfl, hT, g, k _ o (List.getElem_mem hlt) di'⟩)
theorem scMixed : FnScope ["dice", "items", "left", "found", "turn"] ["dice", "items"] (defScope sMixed) := ⟨rfl, rfl, rfl, by decide +kernel, rfl, by decide +kernel, by decide +kernel⟩
theorem ok_mixed (D : Draws K mg fR fP fM dR dP dM) (T : Free mg) : FnOk P w K mg base CX0 2 fM dM ["dice", "items"] (spMixed K) := by
  have GR : FnOk P w K mg base CX0 1 fR dR ["dice", "total"] spRoll := ok_roll D.FR T
  refine D.FM.ok scMixed (fun vs H Q E h => ?_) (fun cdv A outer s H vs Q E hr h => ?_)
  · obtain ⟨d, p, n, xs, rfl, _⟩ := h
    rfl
  · obtain ⟨d, p, n, xs, rfl, npd, hS, few, di, hn, k⟩ := h
    refine ⟨_, pss_cons (ps_par (i := 2) (j := 3) (by rfl) scMixed.nd rfl rfl (by decide) rfl rfl (pa_cons (pe_callTy call_list_of (by rfl) T.list (by decide +kernel) (pa_cons (pv 1) pa_nil)) (pa_cons (pe_lst pa_nil) pa_nil)) (by rfl))
      (pss_cons (ps_for PassesOwn.never rfl (pi_range1 rfl T.range (pa_cons (pe_callB call_len_seq (by rfl) T.len PySem.boot_len (pa_cons (pv 1) pa_nil)) pa_nil)) (pg_name (i := 4) scMixed.nd rfl (.inl rfl))
        (pss_one (ps_expr (pe_bm PySem.F.plainAttrs_list PySem.F.slot_list_append PySem.F.type_list_append mt_append (pv 3)
          (pa_cons (pe_bm PySem.F.plainAttrs_list PySem.F.slot_list_pop PySem.F.type_list_pop mt_popAt (pv 2)
            (pa_cons (pe_call GR hr (by rfl) D.gR D.FR.kp D.bR .nil pass0 (pa_cons (pv 0) (pa_cons (pe_callB call_len_seq (by rfl) T.len PySem.boot_len (pa_cons (pv 2) pa_nil)) pa_nil))) pa_nil)) pa_nil)))))
      (pss_one (ps_ret (pv 3)))), ?_⟩
    obtain ⟨ds, hd⟩ := di.there
    -- left = list(items); found = []
    refine ⟨_, rfl, p, xs, rfl, .inl hS, fun l nl => ⟨Nat.zero_le _, fun q nq => ?_⟩⟩
    refine ⟨_, _, rfl, ?_⟩
    have ndl : d ≠ l := ne_of_none hd nl
    have nql : q ≠ l := fun e => by
      rw [e, upd_same] at nq
      cases nq
    have nHq : H q = none := by
      rw [upd_ne nql] at nq
      exact nq
    have ndq : d ≠ q := ne_of_none hd nHq
    have s1 : Same H (upd (upd H l (.lst xs)) q (.lst [])) := (Same.new nl).trans (Same.new nq)
    have hS1 := s1.seq hS
    -- the loop
    refine ⟨_, rfl, p, xs, rfl, .inl hS1, xs.length, rfl, by omega, by omega, ?_⟩
    refine for_range (lo := 0) (n := ((xs.length : Int)).toNat) (fun i σ H' => ∃ (v : Option V) (rem done : List V), σ = [some (.ref d), some (.ref p), some (.ref l), some (.ref q), v] ∧ Kp d H H' ∧
      H' l = some (.lst rem) ∧ H' q = some (.lst done) ∧ rem.length + i = xs.length ∧ (done ++ rem).Perm xs ∧ Dice H' d (n + i))
      ⟨none, xs, [], rfl, Kp.same s1, by rw [upd_ne nql.symm, upd_same], upd_same, by omega, List.Perm.refl _, di.same s1⟩ ?_ ?_
    · rintro i σ H' hi ⟨v, rem, done, rfl, kp, hl, hq, len, pm, di'⟩
      have hi' : i < xs.length := by omega
      have dl : done.length = i := by
        have := pm.length_eq
        rw [List.length_append] at this
        omega
      refine ⟨_, rfl, .inl ⟨rfl, _, SqL.of hq⟩, _, rfl, .inl ⟨rfl, _, SqL.of hl⟩, _, rfl, _, rfl, l, rem, rfl, .inl (SqL.of hl), d, _, n + i, rfl, di', by omega, by omega, by omega, fun r o r0 r1 di2 => ?_⟩
      have hlt : r.toNat < rem.length := by omega
      have k2 : Kp d H' (upd H' d o) := Kp.upd
      have hl2 := k2 _ _ ndl.symm hl
      have hq2 := k2 _ _ ndq.symm hq
      refine ⟨l, rem, r, r.toNat, rem[r.toNat], rfl, rfl, hl2, by omega, by omega, seqIndex_of r0 (by omega), List.getElem?_eq_getElem hlt, ?_⟩
      have hq3 : (upd (upd H' d o) l (.lst (rem.eraseIdx r.toNat))) q = some (.lst done) := by
        rw [upd_ne nql]
        exact hq2
      refine ⟨q, done, _, rfl, rfl, hq3, small1000 (by omega), ?_⟩
      refine ⟨_, rem.eraseIdx r.toNat, _, rfl, fun b u nb e => ?_, ?_, upd_same, ?_, ?_, ?_⟩
      · rw [upd_ne (ne_of_none e nHq), upd_ne (ne_of_none e nl)]
        exact k2 _ _ nb (kp _ _ nb e)
      · rw [upd_ne nql.symm, upd_same]
      · rw [List.length_eraseIdx_of_lt hlt]
        omega
      · have e1 := erase_perm rem r.toNat hlt
        rw [List.append_assoc]
        exact (List.Perm.append_left done e1).trans pm
      · refine (di2.kept fun u e => ?_).more (by omega) (by omega)
        rw [upd_ne ndq, upd_ne ndl]
        exact e
    · rintro σ H' ⟨v, rem, done, rfl, kp, hl, hq, len, pm, di'⟩
      have e0 : rem = [] := List.length_eq_zero_iff.mp (by omega)
      subst e0
      rw [List.append_nil] at pm
      refine ⟨_, rfl, k q done H' ndq.symm nHq kp hq pm (di'.more (by omega) (by omega))⟩
end
end Pr
namespace Pr
open PySem PySem.Spec PyProof.Rows L2 Gd
/-! ### values that can be judged and shown -/
/-- the heap without the dice -/
def Hm (d : Addr) (H : Hp) : Hp := fun b => if b = d then none else H b
theorem Hm.some_of {d b : Addr} {H : Hp} {o : HO} (h : Hm d H b = some o) : H b = some o ∧ b ≠ d := by
  unfold Hm at h
  by_cases e : b = d
  · rw [if_pos e] at h
    cases h
  · rw [if_neg e] at h
    exact ⟨h, e⟩
theorem Hm.of {d b : Addr} {H : Hp} {o : HO} (h : H b = some o) (e : b ≠ d) : Hm d H b = some o := by
  unfold Hm
  rw [if_neg e]
  exact h
theorem Kp.hm {d : Addr} {H H' : Hp} (k : Kp d H H') : Same (Hm d H) (Hm d H') := fun b o h => Hm.of (k b o (Hm.some_of h).2 (Hm.some_of h).1) (Hm.some_of h).2
/-- the type of a value that is no instance -/
inductive Kd (H : Hp) : V → String → Prop where
  | non : Kd H .non "NoneType"
  | bl (b : Bool) : Kd H (.bl b) "bool"
  | int (i : Int) : Kd H (.int i) "int"
  | str (z : Str) : Kd H (.str z) "str"
  | lst {a : Addr} {xs : List V} (e : H a = some (.lst xs)) : Kd H (.ref a) "list"
  | tup {a : Addr} {xs : List V} (e : H a = some (.tup xs)) : Kd H (.ref a) "tuple"
  | dK {a : Addr} {kvs : List (Key × V)} (e : H a = some (.dK kvs)) : Kd H (.ref a) "dict"
theorem Kd.same {H H' : Hp} {v : V} {t : String} (k : Kd H v t) (s : Same H H') : Kd H' v t := by
  cases k with
  | non => exact .non
  | bl b => exact .bl b
  | int i => exact .int i
  | str z => exact .str z
  | lst e => exact .lst (s _ _ e)
  | tup e => exact .tup (s _ _ e)
  | dK e => exact .dK (s _ _ e)
theorem Sh.more {H : Hp} : ∀ (n : Nat) (v : V) (t : Str), Sh H n v t → Sh H (n + 1) v t
  | 0, _, _, h => .inl h
  | n + 1, _, _, h => by
    rcases h with h | ⟨a, xs, ts, rfl, e, p, rfl⟩ | ⟨a, xs, ts, rfl, e, p, rfl⟩ | ⟨a, xs, ts, rfl, e, p, rfl⟩
    · exact .inl h
    · exact Sh.lst e (L2.Paired.mapP p fun x t q => Sh.more n x t q)
    · exact Sh.tup e (L2.Paired.mapP p fun x t q => Sh.more n x t q)
    · exact Sh.dK e (L2.Paired.mapP p fun x t q => ⟨q.1, Sh.more n x.2 t q.2⟩)
theorem Sh.le {H : Hp} {n m : Nat} {v : V} {t : Str} (h : n ≤ m) (s : Sh H n v t) : Sh H m v t := by
  induction h with
  | refl => exact s
  | step _ ih => exact Sh.more _ _ _ ih
/-- a value: its type, its text, what it holds if it is a tuple -/
structure Vd (H : Hp) (n m : Nat) (v : V) : Prop where
  kd : ∃ t, Kd H v t
  sm : ∃ t, Sh H n v t ∧ t.length ≤ m
  str : ∀ z, v = .str z → z.length ≤ 1000000
  items : ∀ a xs, v = .ref a → H a = some (.tup xs) → xs.length ≤ 1000 ∧ ∀ x ∈ xs, (∃ t, Kd H x t) ∧ ∀ z, x = .str z → z.length ≤ 1000000
theorem Vd.le {H : Hp} {n m n' m' : Nat} {v : V} (h : Vd H n m v) (a : n ≤ n') (b : m ≤ m') : Vd H n' m' v :=
  ⟨h.kd, let ⟨t, s, l⟩ := h.sm; ⟨t, Sh.le a s, by omega⟩, h.str, h.items⟩
theorem Vd.same {H H' : Hp} {n m : Nat} {v : V} (h : Vd H n m v) (s : Same H H') : Vd H' n m v := by
  obtain ⟨t, hk⟩ := h.kd
  refine ⟨⟨t, hk.same s⟩, let ⟨t, q, l⟩ := h.sm; ⟨t, Sh.keep s n v t q, l⟩, h.str, fun a xs e q => ?_⟩
  subst e
  cases hk with
  | lst e =>
    rw [s _ _ e] at q
    cases q
  | tup e =>
    have q' := q
    rw [s _ _ e] at q'
    cases q'
    obtain ⟨l, k⟩ := h.items a xs rfl e
    exact ⟨l, fun x m => let ⟨⟨t, kt⟩, z⟩ := k x m; ⟨⟨t, kt.same s⟩, z⟩⟩
  | dK e =>
    rw [s _ _ e] at q
    cases q
theorem Vd.non {H : Hp} : Vd H 0 2000 .non := ⟨⟨_, .non⟩, ⟨_, Sc.non, by decide⟩, fun z e => (nomatch e), fun a xs e => (nomatch e)⟩
theorem Vd.bl {H : Hp} (b : Bool) : Vd H 0 2000 (.bl b) := ⟨⟨_, .bl b⟩, ⟨_, Sc.bl b, by cases b <;> decide⟩, fun z e => (nomatch e), fun a xs e => (nomatch e)⟩
theorem Vd.int {H : Hp} (i : Int) (h : i.natAbs < 2 ^ 1900) : Vd H 0 2000 (.int i) := by
  have hl : i.natAbs.log2 < 1920 := Nat.lt_of_lt_of_le (PySem.Flt.log2_lt_of (by decide) h) (by decide)
  refine ⟨⟨_, .int i⟩, ⟨_, Sc.int i hl, ?_⟩, fun z e => (nomatch e), fun a xs e => (nomatch e)⟩
  exact Nat.le_trans (PyProof.Rows.int_text_len_1921 hl) (by decide)
/-- a text of at most m signs -/
def SOk (m : Nat) (z : Str) : Prop := z.length ≤ m ∧ ∀ c ∈ z.cps.toList, c < 16 ^ 8
theorem SOk.le {m n : Nat} {z : Str} (h : SOk m z) (l : m ≤ n) : SOk n z := ⟨by have := h.1; omega, h.2⟩
theorem Vd.text {H : Hp} {k : Nat} {z : Str} (h : SOk k z) (hk : k ≤ 100000) : Vd H 0 (10 * k + 2) (.str z) := by
  have l := StrLaws.reprText_len z h.2
  have l2 := h.1
  refine ⟨⟨_, .str z⟩, ⟨_, Sc.str z (by rw [sizeLine_eq]; omega), by omega⟩, fun y e => ?_, fun a xs e => (nomatch e)⟩
  cases e
  omega
theorem paired_of {H : Hp} {n m : Nat} : ∀ {xs : List V}, (∀ x ∈ xs, Vd H n m x) → ∃ ts, Paired (Sh H n) xs ts ∧ (ts.map (·.length)).sum ≤ xs.length * m ∧ ts.length = xs.length
  | [], _ => ⟨[], .nil, by simp, rfl⟩
  | x :: xs, h => by
    obtain ⟨ts, p, s, l⟩ := paired_of (xs := xs) fun y m => h y (List.mem_cons_of_mem _ m)
    obtain ⟨t, q, lt⟩ := (h x List.mem_cons_self).sm
    refine ⟨t :: ts, .cons q p, ?_, by simp [l]⟩
    rw [List.map_cons, List.sum_cons, List.length_cons, Nat.succ_mul]
    omega
theorem Vd.lst {H : Hp} {n m k : Nat} {a : Addr} {xs : List V} (e : H a = some (.lst xs)) (h : ∀ x ∈ xs, Vd H n m x) (hl : xs.length ≤ k) : Vd H (n + 1) (k * (m + 2) + 3) (.ref a) := by
  obtain ⟨ts, p, s, l⟩ := paired_of h
  refine ⟨⟨_, .lst e⟩, ⟨_, Sh.lst e p, ?_⟩, fun z e => (nomatch e), fun b ys eb q => ?_⟩
  · have := listText_len_le ts
    have h2 : xs.length * (m + 2) ≤ k * (m + 2) := Nat.mul_le_mul_right _ hl
    rw [Nat.mul_add] at h2
    omega
  · cases eb
    rw [e] at q
    cases q
theorem Vd.tup {H : Hp} {n m k : Nat} {a : Addr} {xs : List V} (e : H a = some (.tup xs)) (h : ∀ x ∈ xs, Vd H n m x) (hl : xs.length ≤ k) (hk : k ≤ 1000) : Vd H (n + 1) (k * (m + 2) + 3) (.ref a) := by
  obtain ⟨ts, p, s, l⟩ := paired_of h
  refine ⟨⟨_, .tup e⟩, ⟨_, Sh.tup e p, ?_⟩, fun z e => (nomatch e), fun b ys eb q => ?_⟩
  · have := tupleText_len_le ts
    have h2 : xs.length * (m + 2) ≤ k * (m + 2) := Nat.mul_le_mul_right _ hl
    rw [Nat.mul_add] at h2
    omega
  · cases eb
    rw [e] at q
    cases q
    exact ⟨by omega, fun x m => ⟨(h x m).kd, (h x m).str⟩⟩
theorem Vd.dK0 {H : Hp} {a : Addr} (e : H a = some (.dK [])) : Vd H 1 2000 (.ref a) := by
  refine ⟨⟨_, .dK e⟩, ⟨_, Sh.dK e .nil, by decide +kernel⟩, fun z e => (nomatch e), fun b ys eb q => ?_⟩
  cases eb
  rw [e] at q
  cases q
theorem Vd.dK1 {H : Hp} {a : Addr} {x : Str} {i : Int} (e : H a = some (.dK [(.inr x, .int i)])) (hx : SOk 10 x) (hi : i.natAbs.log2 < 1920) : Vd H 1 3000 (.ref a) := by
  have l := StrLaws.reprText_len x hx.2
  have l2 := hx.1
  have l3 := PyProof.Rows.int_text_len_1921 hi
  refine ⟨⟨_, .dK e⟩, ⟨_, Sh.dK (n := 0) (ts := [((toString i : String) : Str)]) e (.cons ⟨by show (reprText x).length ≤ sizeLine; rw [sizeLine_eq]; omega, Sc.int i hi⟩ .nil), ?_⟩, fun z e => (nomatch e), fun b ys eb q => ?_⟩
  · have h := dictText_len_le (List.zipWith (fun (p : Key × V) t => keyText p.1 ++ ": " ++ t) [((.inr x : Key), V.int i)] [((toString i : String) : Str)])
    have e2 : ((keyText (.inr x) ++ ": " ++ ((toString i : String) : Str)) : Str).length = (reprText x).length + 2 + ((toString i : String) : Str).length := by
      rw [strLen_append, strLen_append]
      rfl
    have e3 : (List.zipWith (fun (p : Key × V) t => keyText p.1 ++ ": " ++ t) [((.inr x : Key), V.int i)] [((toString i : String) : Str)]) = [keyText (.inr x) ++ ": " ++ ((toString i : String) : Str)] := rfl
    rw [e3] at h ⊢
    rw [List.map_cons, List.map_nil, List.sum_cons, List.sum_nil, e2, List.length_singleton] at h
    omega
  · cases eb
    rw [e] at q
    cases q
end Pr
namespace Pr
open PySem PySem.Spec PyProof.Rows L2
/-! ### integers, counts, coprime pairs -/
theorem Kd.ty {K : PySem.W.Frag} {H : Hp} {v : V} {t : String} (k : Kd H v t) : TyX K H v (.type t) := by
  cases k with
  | non => exact .base .non
  | bl b => exact .base (.bl b)
  | int i => exact .base (.int i)
  | str z => exact .base (.str z)
  | lst e => exact .base (.lst e)
  | tup e => exact .base (.tup e)
  | dK e => exact .base (.dK e)
/-- is it an int (a bool is one); is it a bool -/
def isI : V → Bool
  | .bl _ => true
  | .int _ => true
  | _ => false
def isB : V → Bool
  | .bl _ => true
  | _ => false
theorem kit_int {K : PySem.W.Frag} {H : Hp} {v : V} {t : String} (k : Kd H v t) : PySem.W.kitOne K (.type t) (.type "int") = some (isI v) := by
  cases k <;> first | exact kit_ty (r := true) (by decide +kernel) | exact kit_ty (r := false) (by decide +kernel)
theorem kit_bool {K : PySem.W.Frag} {H : Hp} {v : V} {t : String} (k : Kd H v t) : PySem.W.kitOne K (.type t) (.type "bool") = some (isB v) := by
  cases k <;> first | exact kit_ty (r := true) (by decide +kernel) | exact kit_ty (r := false) (by decide +kernel)
/-- an integer of at most sixty digits; a count -/
def isInt : V → Bool
  | .int i => decide ((if i < 0 then -i else i) < 10 ^ (60 : Int).toNat)
  | _ => false
def isCount : V → Bool
  | .int i => decide ((if i < 0 then -i else i) < 10 ^ (60 : Int).toNat) && decide (0 ≤ i)
  | _ => false
theorem count_nat {v : V} (h : isCount v = true) : ∃ n : Nat, v = .int n ∧ n < 10 ^ 60 := by
  cases v with
  | int i =>
    have h' : (decide ((if i < 0 then -i else i) < 10 ^ (60 : Int).toNat) && decide (0 ≤ i)) = true := h
    rw [Bool.and_eq_true] at h'
    have h1 := of_decide_eq_true h'.1
    have h2 := of_decide_eq_true h'.2
    rw [if_neg (by omega)] at h1
    have e : ((10 : Int) ^ (60 : Int).toNat) = ((10 ^ 60 : Nat) : Int) := by decide +kernel
    rw [e] at h1
    exact ⟨i.toNat, by rw [Int.toNat_of_nonneg h2], by omega⟩
  | _ => cases h
theorem nat_count {n : Nat} (h : n < 10 ^ 60) : isCount (.int n) = true := by
  show (decide ((if (n : Int) < 0 then -(n : Int) else n) < 10 ^ (60 : Int).toNat) && decide ((0 : Int) ≤ n)) = true
  have e : ((10 : Int) ^ (60 : Int).toNat) = ((10 ^ 60 : Nat) : Int) := by decide +kernel
  rw [if_neg (by omega), e, decide_eq_true (by omega), decide_eq_true (by omega)]
  rfl
def spInt : Sp := fun vs H Q _ => ∃ (v : V) (t : String), vs = [v] ∧ Kd H v t ∧ Q (.bl (isInt v)) H
def spCount : Sp := fun vs H Q _ => ∃ (v : V) (t : String), vs = [v] ∧ Kd H v t ∧ Q (.bl (isCount v)) H
section
variable {P : Program} {w : World} {K : PySem.W.Frag} {mg : Str → Option Value} {base : Heap}
theorem scInteger : FnScope ["value"] ["value"] (defScope sInteger) := ⟨rfl, rfl, rfl, by decide +kernel, rfl, by decide +kernel, by decide +kernel⟩
theorem ok_integer {f : Addr} {fd : FuncData} (F : Fun K "is_integer" "is_integer" sInteger f fd) (T : Free mg) : FnOk P w K mg base CX0 1 f fd ["value"] spInt := by
  refine F.ok scInteger (fun vs H Q E h => ?_) (fun cdv A outer s H vs Q E hr h => ?_)
  · obtain ⟨v, t, rfl, _⟩ := h
    rfl
  · obtain ⟨v, t, rfl, kd, q⟩ := h
    refine ⟨_, pss_one (ps_ret (pe_and (pe_callB call_isi (by rfl) T.isi (by decide +kernel) (pa_cons (pv 0) (pa_cons (pe_bltn (v := .ty "int") (by rfl) T.int (by decide +kernel) rfl) pa_nil)))
      (pe_and (pe_not (pe_callB call_isi (by rfl) T.isi (by decide +kernel) (pa_cons (pv 0) (pa_cons (pe_bltn (v := .ty "bool") (by rfl) T.bool (by decide +kernel) rfl) pa_nil))))
        (pe_one (pe_cmpR op_lt (pe_callB call_abs (by rfl) T.abs (by decide +kernel) (pa_cons (pv 0) pa_nil)) (pe_op op_pow pe_int pe_int) (nomark _)))))), ?_⟩
    refine ⟨_, rfl, v, _, _, _, _, rfl, .ty "int", kd.ty, kit_int kd, _, rfl, ?_⟩
    cases kd with
    | int i => exact iteT ⟨_, rfl, _, _, _, _, _, rfl, .ty "bool", (Kd.int i).ty, kit_bool (Kd.int (H := H) i), _, rfl, _, rfl, iteT ⟨_, rfl, i, rfl, 10, 60, rfl, rfl, c10 (k := 60) (by decide), _, _, rfl, rfl, q⟩⟩
    | bl b => exact iteT ⟨_, rfl, _, _, _, _, _, rfl, .ty "bool", (Kd.bl b).ty, kit_bool (Kd.bl (H := H) b), _, rfl, _, rfl, iteF q⟩
    | _ => exact iteF q
theorem scCount : FnScope ["value"] ["value"] (defScope sCount) := ⟨rfl, rfl, rfl, by decide +kernel, rfl, by decide +kernel, by decide +kernel⟩
/-- the program's own defs that the others call -/
structure Words (K : PySem.W.Frag) (mg : Str → Option Value) (fI fC : Addr) (dI dC : FuncData) : Prop where
  FI : Fun K "is_integer" "is_integer" sInteger fI dI
  bI : Binds K dI ["value"] []
  gI : mg "is_integer" = some (.ref fI)
  FC : Fun K "is_count" "is_count" sCount fC dC
  bC : Binds K dC ["value"] []
  gC : mg "is_count" = some (.ref fC)
variable {fI fC : Addr} {dI dC : FuncData}
theorem ok_count (W : Words K mg fI fC dI dC) (T : Free mg) : FnOk P w K mg base CX0 2 fC dC ["value"] spCount := by
  have GI : FnOk P w K mg base CX0 1 fI dI ["value"] spInt := ok_integer W.FI T
  refine W.FC.ok scCount (fun vs H Q E h => ?_) (fun cdv A outer s H vs Q E hr h => ?_)
  · obtain ⟨v, t, rfl, _⟩ := h
    rfl
  · obtain ⟨v, t, rfl, kd, q⟩ := h
    refine ⟨_, pss_one (ps_ret (pe_and (pe_call GI hr (by rfl) W.gI W.FI.kp W.bI .nil pass0 (pa_cons (pv 0) pa_nil)) (pe_one (pe_cmpR op_ge (pv 0) pe_int (nomark _))))), ?_⟩
    refine ⟨_, rfl, v, t, rfl, kd, _, rfl, ?_⟩
    cases kd with
    | int i =>
      refine ite2 (fun c => ⟨_, rfl, i, _, rfl, rfl, ?_⟩) (fun c => ?_)
      · have e : isCount (.int i) = decide (0 ≤ i) := by
          show (_ && _) = _
          rw [show decide ((if i < 0 then -i else i) < 10 ^ (60 : Int).toNat) = true from c, Bool.true_and]
        rw [e] at q
        exact q
      · have e : isCount (.int i) = false := by
          show (_ && _) = _
          rw [show decide ((if i < 0 then -i else i) < 10 ^ (60 : Int).toNat) = false from Bool.eq_false_iff.mpr c, Bool.false_and]
        rw [e] at q
        exact q
    | _ => exact iteF q
end
end Pr

namespace Pr
open PySem PySem.Spec PyProof.Rows L2 Gd
/-! ### the odd values -/
/-- values made so far: each can be judged, none is the dice -/
structure Good (d : Addr) (H0 H : Hp) (xs : List V) : Prop where
  same : Same H0 H
  there : ∃ o, H0 d = some o
  all : ∀ v ∈ xs, Vd (Hm d H) 4 100000 v
theorem Good.nil {d : Addr} {H : Hp} (h : ∃ o, H d = some o) : Good d H H [] := ⟨Same.refl H, h, fun v m => nomatch m⟩
theorem hm_new {d p : Addr} {H : Hp} {o : HO} (n : H p = none) : Same (Hm d H) (Hm d (upd H p o)) := (Kp.same (d := d) (Same.new n)).hm
theorem hm_fresh {d p : Addr} {H : Hp} {o : HO} (_ : H p = none) (ne : p ≠ d) : Hm d (upd H p o) p = some o := Hm.of upd_same ne
theorem Good.new {d p : Addr} {H0 H : Hp} {xs : List V} {o : HO} (g : Good d H0 H xs) (n : H p = none) : Good d H0 (upd H p o) xs :=
  ⟨g.same.trans (Same.new n), g.there, fun v m => (g.all v m).same (hm_new n)⟩
theorem Good.ne {d p : Addr} {H0 H : Hp} {xs : List V} (g : Good d H0 H xs) (n : H p = none) : p ≠ d := by
  obtain ⟨u, hu⟩ := g.there
  exact (ne_of_none (g.same _ _ hu) n).symm
theorem Good.put {d : Addr} {H0 H : Hp} {xs : List V} {v : V} {n m : Nat} (g : Good d H0 H xs) (h : Vd (Hm d H) n m v) (hn : n ≤ 4) (hm : m ≤ 100000) : Good d H0 H (xs ++ [v]) := by
  refine ⟨g.same, g.there, fun u q => ?_⟩
  rcases List.mem_append.mp q with q | q
  · exact g.all u q
  · rw [List.mem_singleton.mp q]
    exact h.le hn hm
theorem all1 {P : V → Prop} {x : V} (h : P x) : ∀ y ∈ [x], P y := fun y m => by
  rw [List.mem_singleton.mp m]
  exact h
theorem all2 {P : V → Prop} {x y : V} (h : P x) (k : P y) : ∀ z ∈ [x, y], P z := fun z m => by
  rcases List.mem_cons.mp m with e | m
  · rw [e]
    exact h
  · rw [List.mem_singleton.mp m]
    exact k
def repS (z : Str) (k : Nat) : Str := ⟨(List.replicate k z.cps).foldl (· ++ ·) #[]⟩
/-- a text times a small number -/
def rRepS : R2 := fun x y H Q => ∃ z k, x = .str z ∧ y = .int k ∧ 2 ≤ k ∧ k ≤ 5000 ∧ z.length = 1 ∧ Q (.str (repS z k.toNat)) H
section
variable {X : Cx}
theorem foldl_size (c : Array Nat) : ∀ (k : Nat) (a : Array Nat), ((List.replicate k c).foldl (· ++ ·) a).size = a.size + k * c.size
  | 0, a => by simp
  | k + 1, a => by
    rw [List.replicate_succ, List.foldl_cons, foldl_size c k (a ++ c), Array.size_append, Nat.succ_mul]
    omega
theorem op_repS : OpR X (binaryOp .Mult) rRepS := by
  intro pins s σ H x y v u Q I rx ry h
  obtain ⟨z, k, rfl, rfl, h2, h5, hz, q⟩ := h
  obtain ⟨t, rfl⟩ := rx
  obtain ⟨t', rfl⟩ := ry
  have k1 : ¬ k < 1 := by omega
  have e1 : (k == 1 || z.length == 0) = false := by
    have a1 : (k == 1) = false := by rw [beq_eq_false_iff_ne]; omega
    have a2 : (z.length == 0) = false := by rw [beq_eq_false_iff_ne]; omega
    rw [a1, a2]
    rfl
  have hk : (k.toNat : Int) = k := Int.toNat_of_nonneg (by omega)
  have es : (repS z k.toNat).length ≤ sizeLine := by
    show ((List.replicate k.toNat z.cps).foldl (· ++ ·) #[]).size ≤ sizeLine
    have hc : z.cps.size = 1 := hz
    rw [foldl_size, hc, sizeLine_eq]
    simp
    omega
  refine PySem.P.mul_str ?_ (fun _ _ => ?_) (fun _ _ => ?_) ?_
  · rw [decide_eq_false (by omega), decide_eq_false (by omega)]
    rfl
  · rw [hz]
    have := Int.le_ediv_of_mul_le (a := 1) (b := 2 ^ 63 - 1) (c := k) (by omega) (by omega)
    omega
  · rw [hz]
    show decide (_ > sizeLine) = false
    exact decide_eq_false (by rw [sizeLine_eq]; omega)
  · rw [if_neg k1, e1, if_neg Bool.false_ne_true]
    exact ⟨es, .str (repS z k.toNat), H, I.tok _, ⟨_, rfl⟩, q⟩
end
theorem foldl_mem (c : Array Nat) : ∀ (k : Nat) (a : Array Nat) (x : Nat), x ∈ ((List.replicate k c).foldl (· ++ ·) a).toList → x ∈ a.toList ∨ x ∈ c.toList
  | 0, a, x, h => .inl h
  | k + 1, a, x, h => by
    rw [List.replicate_succ, List.foldl_cons] at h
    rcases foldl_mem c k (a ++ c) x h with h | h
    · rw [Array.toList_append] at h
      exact (List.mem_append.mp h).imp id id
    · exact .inr h
theorem sok_rep {k : Nat} {z : Str} (hz : SOk 1 z) : SOk k (repS z k) := by
  have h1 := hz.1
  have h2 : z.cps.size ≤ 1 := h1
  refine ⟨?_, fun c h => ?_⟩
  · show ((List.replicate k z.cps).foldl (· ++ ·) #[]).size ≤ k
    rw [foldl_size]
    have := Nat.mul_le_mul_left k h2
    simp
    omega
  · rcases foldl_mem z.cps k #[] c h with h | h
    · simp at h
    · exact hz.2 c h
/-- the law's odd values: each is odd, none is the dice -/
def spOdd : Sp := fun vs H Q _ => ∃ (d : Addr) (n : Nat), vs = [.ref d] ∧ Dice H d n ∧ n + 26 < 1000000 ∧
  ∀ (q : Addr) (ys : List V) (H' : Hp), q ≠ d → H q = none → Kp d H H' → H' q = some (.lst ys) → ys.length = 26 → (∀ y ∈ ys, Vd (Hm d H') 4 100000 y) → Dice H' d (n + 26) → Q (.ref q) H'
section
variable {P : Program} {w : World} {K : PySem.W.Frag} {mg : Str → Option Value} {base : Heap} {fR fP fM : Addr} {dR dP dM : FuncData}
theorem scOdd : FnScope ["dice", "some"] ["dice"] (defScope sOdd) := ⟨rfl, rfl, rfl, by decide +kernel, rfl, by decide +kernel, by decide +kernel⟩
theorem ok_odd {f : Addr} {fd : FuncData} (F : Fun K "_law_odd_values" "_law_odd_values" sOdd f fd) (D : Draws K mg fR fP fM dR dP dM) (T : Free mg) : FnOk P w K mg base CX0 3 f fd ["dice"] spOdd := by
  have GM : FnOk P w K mg base CX0 2 fM dM ["dice", "items"] (spMixed K) := ok_mixed D T
  refine F.ok scOdd (fun vs H Q E h => ?_) (fun cdv A outer s H vs Q E hr h => ?_)
  · obtain ⟨d, n, rfl, _⟩ := h
    rfl
  · obtain ⟨d, n, rfl, di, hn, k⟩ := h
    obtain ⟨ds, hd⟩ := di.there
    refine ⟨_, pss_cons (ps_set (i := 1) scOdd.nd rfl (.inl rfl) (pe_lst (pa_cons pe_non (pa_cons pe_int (pa_cons pe_int (pa_cons (pe_un un_neg pe_int) (pa_cons pe_bl (pa_cons pe_bl (pa_cons pe_str (pa_cons pe_str (pa_cons pe_str
        (pa_cons (pe_tup pa_nil) (pa_cons (pe_tup (pa_cons pe_str pa_nil)) (pa_cons (pe_lst pa_nil) (pa_cons (pe_lst (pa_cons pe_str pa_nil)) (pa_cons pe_dnewK (pa_cons (pe_disp (pps_cons pe_str pe_int pps_nil) (by rfl) (by rfl) (fun z => by cases z) (by decide))
        (pa_cons (pe_tup (pa_cons (pe_tup pa_nil) pa_nil)) (pa_cons (pe_op op_pow pe_int pe_int) (pa_cons pe_str pa_nil))))))))))))))))))))
      (pss_cons (ps_set (i := 1) scOdd.nd rfl (.inl rfl) (pe_op op_cat (pv 1) (pe_lst (pa_cons (pe_op op_repS pe_str pe_int) (pa_cons (pe_op op_repT (pe_tup (pa_cons pe_str pa_nil)) pe_int) (pa_cons (pe_tup (pa_cons pe_int (pa_cons pe_int pa_nil)))
        (pa_cons (pe_tup (pa_cons pe_non pa_nil)) (pa_cons (pe_tup (pa_cons (pe_tup (pa_cons (pe_tup (pa_cons pe_str pa_nil)) pa_nil)) pa_nil)) (pa_cons pe_str (pa_cons (pe_op op_mulW (pe_op op_pow pe_int pe_int) (pe_op op_pow pe_int pe_int)) pa_nil))))))))))
      (pss_one (ps_ret (pe_call GM hr (by rfl) D.gM D.FM.kp D.bM .nil pass0 (pa_cons (pv 0) (pa_cons (pe_op op_cat (pv 1) (pe_lst (pa_cons (pe_op op_sub pe_int (pe_op op_pow pe_int pe_int)) pa_nil))) pa_nil)))))), ?_⟩
    have z : ∀ {m : Nat}, m ≤ 64 → m ≤ sizeLine := fun h => Nat.le_trans h (by decide)
    have g0 : Good d H H [] := Good.nil ⟨_, hd⟩
    have L : ∀ {d : Addr} {H : Hp}, Vd (Hm d H) 0 2000 (.str "c") := (Vd.text (k := 100) ⟨by decide, by decide +kernel⟩ (by decide)).le (Nat.le_refl _) (by decide)
    have T : ∀ {d : Addr} {H : Hp} (z : Str), SOk 5 z → Vd (Hm d H) 0 2000 (.str z) := fun z h => (Vd.text (k := 100) (h.le (by decide)) (by decide)).le (Nat.le_refl _) (by decide)
    have I : ∀ {d : Addr} {H : Hp} (i : Int), i.natAbs < 2 ^ 1900 → Vd (Hm d H) 0 2000 (.int i) := fun i h => Vd.int i h
    have g1 := ((((((((g0.put Vd.non (by decide) (by decide)).put (I 0 (by decide +kernel)) (by decide) (by decide)).put (I 1 (by decide +kernel)) (by decide) (by decide)).put (I (-1) (by decide +kernel)) (by decide) (by decide)).put (Vd.bl true) (by decide) (by decide)).put (Vd.bl false) (by decide) (by decide)).put (T "" ⟨by decide, by decide +kernel⟩) (by decide) (by decide)).put (T "a" ⟨by decide, by decide +kernel⟩) (by decide) (by decide)).put (T "A b" ⟨by decide, by decide +kernel⟩) (by decide) (by decide)
    refine ⟨_, rfl, z (Nat.le_of_ble_eq_true rfl), fun t1 n1 => ?_⟩
    have g2 := (g1.new n1 (o := .tup [])).put (Vd.tup (n := 0) (m := 2000) (k := 0) (hm_fresh n1 (g1.ne n1)) (fun y m => nomatch m) (by decide) (by decide)) (by decide) (by decide)
    refine ⟨z (Nat.le_of_ble_eq_true rfl), fun t2 n2 => ?_⟩
    have g3 := (g2.new n2 (o := .tup [.str "c"])).put (Vd.tup (n := 0) (m := 2000) (k := 1) (hm_fresh n2 (g2.ne n2)) (all1 L) (by decide) (by decide)) (by decide) (by decide)
    refine ⟨z (Nat.le_of_ble_eq_true rfl), fun t3 n3 => ?_⟩
    have g4 := (g3.new n3 (o := .lst [])).put (Vd.lst (n := 0) (m := 2000) (k := 0) (hm_fresh n3 (g3.ne n3)) (fun y m => nomatch m) (by decide)) (by decide) (by decide)
    refine ⟨z (Nat.le_of_ble_eq_true rfl), fun t4 n4 => ?_⟩
    have g5 := (g4.new n4 (o := .lst [.str "c"])).put (Vd.lst (n := 0) (m := 2000) (k := 1) (hm_fresh n4 (g4.ne n4)) (all1 L) (by decide)) (by decide) (by decide)
    intro t5 n5
    have g6 := (g5.new n5 (o := .dK [])).put (Vd.dK0 (hm_fresh n5 (g5.ne n5))) (by decide) (by decide)
    refine fun t6 n6 => ⟨upd_same, [(Sum.inr "c", .int 0)], rfl, by decide, ?_⟩
    have g7 := (g6.new (o := .dK (mergeK [] [((Sum.inr "c" : Key), V.int 0)])) n6).put (Vd.dK1 (x := "c") (i := 0) (hm_fresh n6 (g6.ne n6)) ⟨by decide, by decide +kernel⟩ (by decide)) (by decide) (by decide)
    have g7b := g7
    rw [← upd_upd (H := upd _ t5 _) (a := t6) (o := .dK [])] at g7b
    refine ⟨z (Nat.le_of_ble_eq_true rfl), fun t7 n7 => ⟨z (Nat.le_of_ble_eq_true rfl), fun t8 n8 => ?_⟩⟩
    have g7c := g7b.new n7 (o := .tup [])
    have v7 : Vd (Hm d _) 1 2000 (.ref t7) := (Vd.tup (n := 0) (m := 2000) (k := 0) (xs := []) (hm_fresh n7 (g7b.ne n7)) (fun y m => nomatch m) (by decide) (by decide)).le (by decide) (by decide)
    have g8 := (g7c.new n8 (o := .tup [.ref t7])).put (Vd.tup (n := 1) (m := 2000) (k := 1) (hm_fresh n8 (g7c.ne n8)) (all1 (v7.same (hm_new n8))) (Nat.le_refl 1) (by decide)) (by decide) (by decide)
    refine ⟨10, 60, rfl, rfl, c10 (k := 60) (by decide), ?_⟩
    have g9 := (g8.put (I (10 ^ (60 : Int).toNat) (by decide +kernel)) (by decide) (by decide)).put (T "_" ⟨by decide, by decide +kernel⟩) (by decide) (by decide)
    -- the list itself
    refine ⟨z (Nat.le_of_ble_eq_true rfl), fun l1 m1 => ?_⟩
    have g10 := g9.new m1 (o := .lst [V.non, .int 0, .int 1, .int (-1), .bl true, .bl false, .str "", .str "a", .str "A b", .ref t1, .ref t2, .ref t3, .ref t4, .ref t5, .ref t6, .ref t8, .int (10 ^ (60 : Int).toNat), .str "_"])
    -- some + [..]
    refine ⟨_, rfl, _, _, rfl, rfl, by decide, by decide, by decide +kernel, ?_⟩
    have V4 : ∀ {d : Addr} {H : Hp}, Vd (Hm d H) 0 40002 (.str (repS "x" (4000 : Int).toNat)) := Vd.text (k := 4000) (sok_rep ⟨by decide, by decide +kernel⟩) (by decide)
    have h0 := g10.put V4 (by decide) (by decide)
    refine ⟨z (Nat.le_of_ble_eq_true rfl), fun t9 n9 => ⟨_, _, _, rfl, rfl, SqT.of upd_same, by simp, by decide, by decide, by simp, fun t10 n10 => ?_⟩⟩
    have h0b := h0.new n9 (o := .tup [.str "c"])
    have h1 := (h0b.new n10 (o := .tup (List.replicate (30 : Int).toNat [V.str "c"]).flatten)).put (Vd.tup (n := 0) (m := 2000) (k := 30) (hm_fresh n10 (h0b.ne n10)) (fun y m => by
      obtain ⟨l, hl, hy⟩ := List.mem_flatten.mp m
      rw [List.eq_of_mem_replicate hl] at hy
      rw [List.mem_singleton.mp hy]
      exact L) (by decide) (by decide)) (by decide) (by decide)
    refine ⟨z (Nat.le_of_ble_eq_true rfl), fun t11 n11 => ?_⟩
    have h2 := (h1.new n11 (o := .tup [.int 1, .int 2])).put (Vd.tup (n := 0) (m := 2000) (k := 2) (hm_fresh n11 (h1.ne n11)) (all2 (I 1 (by decide +kernel)) (I 2 (by decide +kernel))) (by decide) (by decide)) (by decide) (by decide)
    refine ⟨z (Nat.le_of_ble_eq_true rfl), fun t12 n12 => ?_⟩
    have h3 := (h2.new n12 (o := .tup [.non])).put (Vd.tup (n := 0) (m := 2000) (k := 1) (hm_fresh n12 (h2.ne n12)) (all1 Vd.non) (by decide) (by decide)) (by decide) (by decide)
    refine ⟨z (Nat.le_of_ble_eq_true rfl), fun t13 n13 => ⟨z (Nat.le_of_ble_eq_true rfl), fun t14 n14 => ⟨z (Nat.le_of_ble_eq_true rfl), fun t15 n15 => ?_⟩⟩⟩
    have h3b := h3.new n13 (o := .tup [.str "c"])
    have v13 : Vd (Hm d _) 1 3000 (.ref t13) := (Vd.tup (n := 0) (m := 2000) (k := 1) (xs := [.str "c"]) (hm_fresh n13 (h3.ne n13)) (all1 L) (by decide) (by decide)).le (by decide) (by decide)
    have h3c := h3b.new n14 (o := .tup [.ref t13])
    have v14 : Vd (Hm d _) 2 4000 (.ref t14) := (Vd.tup (n := 1) (m := 3000) (k := 1) (xs := [.ref t13]) (hm_fresh n14 (h3b.ne n14)) (all1 (v13.same (hm_new n14))) (Nat.le_refl 1) (by decide)).le (by decide) (by decide)
    have h4 := (h3c.new n15 (o := .tup [.ref t14])).put (Vd.tup (n := 2) (m := 4000) (k := 1) (hm_fresh n15 (h3c.ne n15)) (all1 (v14.same (hm_new n15))) (Nat.le_refl 1) (by decide)) (by decide) (by decide)
    refine ⟨10, 60, rfl, rfl, c10 (k := 60) (by decide), 10, 39, rfl, rfl, c10 (k := 39) (by decide), _, _, rfl, rfl, wide_mul (a := 400) (b := 400) (by decide +kernel) (by decide +kernel) (by decide) (by decide) (by decide), ?_⟩
    have h5 := (h4.put (T "\n" ⟨by decide, by decide +kernel⟩) (by decide) (by decide)).put (I (10 ^ (60 : Int).toNat * 10 ^ (39 : Int).toNat) (by decide +kernel)) (by decide) (by decide)
    refine ⟨z (Nat.le_of_ble_eq_true rfl), fun l2 m2 => ?_⟩
    refine ⟨l1, l2, _, _, rfl, rfl, ((((((((Same.new n9).trans (Same.new n10)).trans (Same.new n11)).trans (Same.new n12)).trans (Same.new n13)).trans (Same.new n14)).trans (Same.new n15)).trans (Same.new m2)) _ _ upd_same, upd_same, z (Nat.le_of_ble_eq_true rfl), fun p m3 => ?_⟩
    refine ⟨_, rfl, _, rfl, 10, 60, rfl, rfl, c10 (k := 60) (by decide), 0, _, rfl, rfl, z (Nat.le_of_ble_eq_true rfl), fun l3 m4 => ?_⟩
    refine ⟨p, l3, _, _, rfl, rfl, (Same.new m4) _ _ upd_same, upd_same, z (Nat.le_of_ble_eq_true rfl), fun p2 m5 => ?_⟩
    have h6 := fun o : HO => Good.new (o := o) (Good.put (Good.new (Good.new h5 m2) m3) (I (0 - 10 ^ (60 : Int).toNat) (by decide +kernel)) (by decide) (by decide)) m4
    have h7 := fun o : HO => Good.new (o := o) (h6 _) m5
    simp only [List.nil_append, List.cons_append] at h7
    have hd2 := fun o : HO => (h6 o).same _ _ hd
    refine ⟨d, p2, n, _, rfl, (ne_of_none (hd2 _) m5).symm, SqL.of upd_same, Nat.le_of_ble_eq_true rfl, di.same (h7 _).same, hn, fun q ys H' nqd nq kp hq pm di2 => ?_⟩
    · refine k q ys H' nqd ((h7 _).same.free nq) (fun b o nb e => kp b o nb ((h7 _).same b o e)) hq pm.length_eq (fun y m => ((h7 _).all y (pm.subset m)).same kp.hm) di2
end
end Pr
namespace Pr
open PySem PySem.Spec PyProof.Rows L2 Gd
/-! ### names: by the text's methods, and sign by sign -/
def azC (c : Nat) : Bool := decide (97 ≤ c) && decide (c ≤ 122)
def azB (z : Str) : Bool := decide (1 ≤ z.length) && decide (z.length ≤ 8) && z.cps.toList.all azC
def nameB : V → Bool
  | .str z => azB z
  | _ => false
theorem az_table : ((List.range 128).all fun c => ((Unicode.isAlpha c && !(Unicode.isUpper c || Unicode.isTitle c)) == azC c) && (!azC c || Unicode.isLower c)) = true := by decide +kernel
theorem az_at {c : Nat} (h : c < 128) : (Unicode.isAlpha c && !(Unicode.isUpper c || Unicode.isTitle c)) = azC c ∧ (azC c = true → Unicode.isLower c = true) := by
  have q := List.all_eq_true.mp az_table c (List.mem_range.mpr h)
  rw [Bool.and_eq_true] at q
  refine ⟨eq_of_beq q.1, fun e => ?_⟩
  have q2 := q.2
  rw [e] at q2
  simpa using q2
theorem az_lt {c : Nat} (h : azC c = true) : c < 128 := by
  unfold azC at h
  rw [Bool.and_eq_true] at h
  have := of_decide_eq_true h.2
  omega
/-- the three methods say what the signs say -/
theorem by_methods {z : Str} (h8 : z.length ≤ 8) : (Txt.isascii z && (Txt.isalpha z && Txt.islower z)) = azB z := by
  obtain ⟨⟨l⟩⟩ := z
  have hl : l.length ≤ 8 := h8
  have e1 : Txt.isascii ⟨⟨l⟩⟩ = l.all (· < 128) := by simp [Txt.isascii]
  have e2 : Txt.isalpha ⟨⟨l⟩⟩ = (decide (0 < l.length) && l.all Unicode.isAlpha) := by
    unfold Txt.isalpha
    simp [Str.length]
  have e3 : Txt.islower ⟨⟨l⟩⟩ = (l.any Unicode.isLower && !l.any fun c => Unicode.isUpper c || Unicode.isTitle c) := by simp [Txt.islower]
  have e4 : azB ⟨⟨l⟩⟩ = (decide (1 ≤ l.length) && decide (l.length ≤ 8) && l.all azC) := rfl
  rw [e1, e2, e3, e4, decide_eq_true hl, Bool.and_true]
  apply Bool.eq_iff_iff.mpr
  simp only [Bool.and_eq_true, List.all_eq_true, decide_eq_true_eq, Bool.not_eq_true', List.any_eq_false, List.any_eq_true]
  constructor
  · rintro ⟨a, ⟨b, c⟩, d, e⟩
    refine ⟨b, fun x m => ?_⟩
    rw [← (az_at (a x m)).1, c x m, Bool.true_and]
    have := e x m
    simpa using this
  · rintro ⟨a, b⟩
    have lt : ∀ x ∈ l, x < 128 := fun x m => az_lt (b x m)
    have both : ∀ x ∈ l, Unicode.isAlpha x = true ∧ (Unicode.isUpper x || Unicode.isTitle x) = false := fun x m => by
      have q := (az_at (lt x m)).1
      rw [b x m, Bool.and_eq_true] at q
      exact ⟨q.1, by simpa using q.2⟩
    refine ⟨lt, ⟨a, fun x m => (both x m).1⟩, ?_, fun x m => by rw [(both x m).2]; simp⟩
    cases l with
    | nil => simp at a
    | cons x r => exact ⟨x, List.mem_cons_self, (az_at (lt x List.mem_cons_self)).2 (b x List.mem_cons_self)⟩
def spName : Sp := fun vs H Q _ => ∃ (v : V) (t : String), vs = [v] ∧ Kd H v t ∧ (∀ z, v = .str z → z.length ≤ 1000000) ∧ Q (.bl (nameB v)) H
theorem kit_str {K : PySem.W.Frag} {H : Hp} {v : V} {t : String} (k : Kd H v t) : PySem.W.kitOne K (.type t) (.type "str") = some (match v with | .str _ => true | _ => false) := by
  cases k <;> first | exact kit_ty (r := true) (by decide +kernel) | exact kit_ty (r := false) (by decide +kernel)
/-- a list's address (or any other's) is no text -/
theorem nameB_not {H : Hp} {v : V} {t : String} (k : Kd H v t) (h : ∀ z, v ≠ .str z) : nameB v = false := by
  cases k with
  | str z => exact absurd rfl (h z)
  | _ => rfl
section
variable {P : Program} {w : World} {K : PySem.W.Frag} {mg : Str → Option Value} {base : Heap}
theorem scName : FnScope ["value"] ["value"] (defScope sName) := ⟨rfl, rfl, rfl, by decide +kernel, rfl, by decide +kernel, by decide +kernel⟩
theorem ok_name {f : Addr} {fd : FuncData} {tk : Tok} (F : Fun K "is_name" "is_name" sName f fd) (T : Free mg) (gm : mg "MAX_LETTERS" = some (.int 8 tk)) : FnOk P w K mg base CX0 1 f fd ["value"] spName := by
  refine F.ok scName (fun vs H Q E h => ?_) (fun cdv A outer s H vs Q E hr h => ?_)
  · obtain ⟨v, t, rfl, _⟩ := h
    rfl
  · obtain ⟨v, t, rfl, kd, hz, q⟩ := h
    refine ⟨_, pss_cons (ps_if (PW.pt (pw_or (pt_not (pt_val (pe_callB call_isi (by rfl) T.isi (by decide +kernel) (pa_cons (pv 0) (pa_cons (pe_bltn (v := .ty "str") (by rfl) T.str (by decide +kernel) rfl) pa_nil)))))
        (pw_or1 (pt_cmpR op_gt (pe_callB call_len_str (by rfl) T.len PySem.boot_len (pa_cons (pv 0) pa_nil)) (pe_glob (v := .int 8) (by rfl) gm ⟨_, rfl⟩) (nomark _))))) (pss_one (ps_ret pe_bl)) pss_nil)
      (pss_one (ps_ret (pe_and (pe_bm0 PySem.F.plainAttrs_str PySem.F.slot_str_isascii PySem.F.type_str_isascii mt_isascii (pv 0))
        (pe_and (pe_bm0 PySem.F.plainAttrs_str PySem.F.slot_str_isalpha PySem.F.type_str_isalpha mt_isalpha (pv 0))
          (pe_one (pe_bm0 PySem.F.plainAttrs_str PySem.F.slot_str_islower PySem.F.type_str_islower mt_islower (pv 0))))))), ?_⟩
    refine ⟨_, rfl, v, _, _, _, _, rfl, .ty "str", kd.ty, kit_str kd, _, rfl, ?_⟩
    cases kd with
    | str z =>
      have l := hz z rfl
      refine iteF ⟨_, rfl, z, rfl, by rw [sizeLine_eq]; omega, _, _, rfl, rfl, _, rfl, ite2 (fun c => ?_) (fun c => ?_)⟩
      · have e : nameB (.str z) = false := by
          have c' := of_decide_eq_true c
          show (_ && _ && _) = false
          rw [decide_eq_false (show ¬ z.length ≤ 8 by omega), Bool.and_false, Bool.false_and]
        rw [e] at q
        exact q
      · have c' : ¬ (8 : Int) < z.length := fun h => c (decide_eq_true h)
        have e : nameB (.str z) = (Txt.isascii z && (Txt.isalpha z && Txt.islower z)) := (by_methods (by omega)).symm
        rw [e] at q
        refine ⟨_, rfl, rfl, z, rfl, rfl, trivial, _, rfl, ite2 (fun c1 => ?_) (fun c1 => ?_)⟩
        · rw [c1, Bool.true_and] at q
          refine ⟨_, rfl, rfl, z, rfl, rfl, trivial, _, rfl, ite2 (fun c2 => ?_) (fun c2 => ?_)⟩
          · rw [c2, Bool.true_and] at q
            exact ⟨_, rfl, rfl, z, rfl, rfl, trivial, q⟩
          · rw [Bool.eq_false_iff.mpr c2, Bool.false_and] at q
            exact q
        · rw [Bool.eq_false_iff.mpr c1, Bool.false_and] at q
          exact q
    | _ => exact iteT (iteT q)
end
/-! ### a list beside the empty one -/
def rEqE (K : PySem.W.Frag) : R2 := fun x y H Q => ∃ a b xs, x = .ref a ∧ y = .ref b ∧ SqL K H a xs ∧ SqL K H b [] ∧ Q (.bl xs.isEmpty) H
theorem op_eqE {X : Cx} (hu : X.A.units + 64 < cLine) : OpR X (compareOp .Eq) (rEqE X.K) := by
  intro pins s σ H x y v u Q I rx ry h
  obtain ⟨a, b, xs, rfl, rfl, ha, hb, q⟩ := h
  cases (show v = Value.ref a from rx)
  cases (show u = Value.ref b from ry)
  obtain ⟨us, r1, p1, _⟩ := I.list ha
  obtain ⟨ws, r2, p2, _⟩ := I.list hb
  have l2 : ws.length = 0 := r2.length.symm
  have l1 : us.length = xs.length := r1.length.symm
  cases xs with
  | nil =>
    have hsz : us.toArray.size = ws.toArray.size := by
      rw [List.size_toArray, List.size_toArray, l1, l2]
      rfl
    have z := SeqAt.RcAt.lists (e := fun _ => true) p1.isList p2.isList hsz (A := X.A) (s := s) (by omega) (fun j h1 h2 => by
      rw [List.size_toArray, l1] at h1
      exact absurd h1 (Nat.not_lt_zero _))
    rw [show ((List.range us.toArray.size).all fun _ => true) = true from List.all_eq_true.mpr fun _ _ => rfl] at z
    exact z X.prog X.w _ _ ⟨.bl true, H, I, rfl, q⟩
  | cons x r =>
    have hsz : (us.toArray.size != ws.toArray.size) = true := by
      rw [List.size_toArray, List.size_toArray, l1, l2]
      rfl
    exact SeqAt.RcAt.lists_lengths p1.isList p2.isList hsz (A := X.A) (s := s) (by omega) X.prog X.w _ _ ⟨.bl false, H, I, rfl, q⟩
/-- a comprehension over the signs of a text -/
theorem lc_signs {x : Str} {g : TG} {tt : TT} {te : TE} {vs : List Nat} {σ : L2.St} {H1 : Hp} {D : Addr} {Qd : Hp → Prop} (Pv : Nat → Hp → Prop) (h0 : Pv 0 (upd H1 D (.lst [])))
    (hs : ∀ i c H, x.cps[i]? = some c → Pv i H → g (.str ⟨#[c]⟩) (wipe σ vs) H fun σ2 H2 => wipe σ2 vs = wipe σ vs ∧ tt σ2 H2 fun b H3 =>
      if b = true then te σ2 H3 fun y H4 => ∃ acc, H4 D = some (.lst acc) ∧ acc.length < sizeLine ∧ Pv (i + 1) (upd H4 D (.lst (acc ++ [y]))) else Pv (i + 1) H3) (hd : ∀ H, Pv x.cps.size H → Qd H) :
    ∃ W : Nat → Nat → Hp → Prop, (∃ m, W 0 m (upd H1 D (.lst []))) ∧ ∀ i m H, W i m H →
      ((Its x).stop i H ∧ Qd H) ∨ ((Its x).go i H ∧ ∃ Nx : Hp → Prop, (∀ H', Nx H' → ∃ m', m' < m ∧ W (i + 1) m' H') ∧ ∀ y H', (Its x).yld i H y H' → g y (wipe σ vs) H' fun σ2 H2 => wipe σ2 vs = wipe σ vs ∧ tt σ2 H2 fun b H3 =>
        if b = true then te σ2 H3 fun y H4 => ∃ acc, H4 D = some (.lst acc) ∧ acc.length < sizeLine ∧ Nx (upd H4 D (.lst (acc ++ [y]))) else Nx H3) := by
  refine ⟨fun i m H => m = x.cps.size - i ∧ i ≤ x.cps.size ∧ Pv i H, ⟨x.cps.size, by simp, Nat.zero_le _, h0⟩, ?_⟩
  rintro i m H ⟨rfl, hi, p⟩
  rcases Nat.lt_or_ge i x.cps.size with lt | ge
  · refine .inr ⟨lt, Pv (i + 1), fun H' p' => ⟨x.cps.size - (i + 1), by omega, rfl, lt, p'⟩, fun y H' h => ?_⟩
    obtain ⟨rfl, c, hc, rfl⟩ := h
    exact hs i c _ hc p
  · obtain rfl : i = x.cps.size := Nat.le_antisymm hi ge
    exact .inl ⟨Nat.le_refl _, hd H p⟩
end Pr
namespace Pr
open PySem PySem.Spec PyProof.Rows L2 Gd
theorem azC_le (c : Nat) : (!decide (([c] : List Nat) < [97]) && !decide (([122] : List Nat) < [c])) = azC c := by
  have e1 : (([c] : List Nat) < [97]) ↔ c < 97 := by simp [List.cons_lt_cons_iff]
  have e2 : (([122] : List Nat) < [c]) ↔ 122 < c := by simp [List.cons_lt_cons_iff]
  unfold azC
  by_cases h1 : c < 97
  · rw [decide_eq_true (e1.mpr h1), decide_eq_false (show ¬ 97 ≤ c by omega)]
    rfl
  · rw [decide_eq_false (fun h => h1 (e1.mp h)), decide_eq_true (show 97 ≤ c by omega)]
    by_cases h2 : 122 < c
    · rw [decide_eq_true (e2.mpr h2), decide_eq_false (show ¬ c ≤ 122 by omega)]
      rfl
    · rw [decide_eq_false (fun h => h2 (e2.mp h)), decide_eq_true (show c ≤ 122 by omega)]
      rfl
theorem take_all {l : List Nat} {p : Nat → Bool} {i c : Nat} (h : l[i]? = some c) : (l.take (i + 1)).all p = ((l.take i).all p && p c) := by
  rw [List.take_add_one, h, List.all_append]
  simp
/-- the signs that are no small letters -/
def offs (l : List Nat) : List V := (l.filter fun c => !azC c).map fun c => .str ⟨#[c]⟩
theorem offs_len (l : List Nat) : (offs l).length ≤ l.length := by
  unfold offs
  rw [List.length_map]
  exact List.length_filter_le _ _
theorem offs_more {l : List Nat} {i c : Nat} (h : l[i]? = some c) : offs (l.take (i + 1)) = offs (l.take i) ++ (if azC c then [] else [.str ⟨#[c]⟩]) := by
  unfold offs
  rw [List.take_add_one, h, List.filter_append, List.map_append]
  cases e : azC c <;> simp [e]
theorem offs_empty (l : List Nat) : l.all azC = (offs l).isEmpty := by
  unfold offs
  induction l with
  | nil => rfl
  | cons c r ih =>
    cases e : azC c
    · simp [e]
    · simp only [List.all_cons, e, Bool.true_and, ih]
      simp [e]
/-- is_named, and each one of several values: the same promise as is_name's, for each state of the heap -/
def spNamed : Sp := fun vs H Q _ => ∃ (v : V) (t : String), vs = [v] ∧ Kd H v t ∧ (∀ z, v = .str z → z.length ≤ 1000000) ∧ ∀ H', Same H H' → Q (.bl (nameB v)) H'
section
variable {P : Program} {w : World} {K : PySem.W.Frag} {mg : Str → Option Value} {base : Heap}
theorem scNamed : FnScope ["value", "letter"] ["value"] (defScope sNamed) := ⟨rfl, rfl, rfl, by decide +kernel, rfl, by decide +kernel, by decide +kernel⟩
theorem ok_named {f : Addr} {fd : FuncData} (F : Fun K "_law_is_named" "_law_is_named" sNamed f fd) (T : Free mg) : FnOk P w K mg base CX0 1 f fd ["value"] spNamed := by
  refine F.ok scNamed (fun vs H Q E h => ?_) (fun cdv A outer s H vs Q E hr h => ?_)
  · obtain ⟨v, t, rfl, _⟩ := h
    rfl
  · obtain ⟨v, t, rfl, kd, hz, q⟩ := h
    have hu := hr.units
    refine ⟨_, pss_cons (ps_if (PW.pt (pw_or (pt_not (pt_val (pe_callB call_isi (by rfl) T.isi (by decide +kernel) (pa_cons (pv 0) (pa_cons (pe_bltn (v := .ty "str") (by rfl) T.str (by decide +kernel) rfl) pa_nil)))))
        (pw_or1 (pt_not (pt_chain op_le op_le pe_int (pe_callB call_len_str (by rfl) T.len PySem.boot_len (pa_cons (pv 0) pa_nil)) pe_int))))) (pss_one (ps_ret pe_bl)) pss_nil)
      (pss_one (ps_ret (pe_cmpR (op_eqE hu) (pe_lc (own := [("letter", 1)]) (g := gName 1) (by rfl) scNamed.nd (pi_str (pv 0)) (blkOk_by (own := [("letter", 1)]) (N := ["value", "letter"]) (sc := defScope sNamed) (by decide +kernel))
          (fun _ _ _ _ _ => pg_name (i := 1) scNamed.nd rfl (Or.inl rfl)) (fun _ _ _ _ _ => pts_one (pt_not (pt_chain op_le_str op_le_str pe_str (pv 1) pe_str))) (fun _ _ _ _ _ => pv 1)) (pe_lst pa_nil) (nomark _)))), ?_⟩
    refine ⟨_, rfl, v, _, _, _, _, rfl, .ty "str", kd.ty, kit_str kd, _, rfl, ?_⟩
    cases kd with
    | str z =>
      have l := hz z rfl
      refine iteF ⟨_, rfl, z, rfl, by rw [sizeLine_eq]; omega, _, _, rfl, rfl, _, rfl, ite2 (fun c1 => ?_) (fun c1 => ?_)⟩
      · have l1 : 1 ≤ z.length := by
          have := of_decide_eq_true c1
          omega
        refine ⟨_, _, rfl, rfl, _, rfl, ite2 (fun c2 => ?_) (fun c2 => ?_)⟩
        · have l8 : ¬ z.length ≤ 8 := fun h => by
            rw [decide_eq_true (show (z.length : Int) ≤ 8 by omega)] at c2
            cases c2
          have e : nameB (.str z) = false := by
            show (_ && _ && _) = false
            rw [decide_eq_false l8, Bool.and_false, Bool.false_and]
          rw [e] at q
          exact q _ (Same.refl _)
        · have l8 : z.length ≤ 8 := by
            rcases Nat.lt_or_ge 8 z.length with h | h
            · exact absurd (by rw [decide_eq_false (show ¬ (z.length : Int) ≤ 8 by omega)]; rfl) c2
            · exact h
          -- the signs that are none
          refine ⟨_, rfl, z, rfl, fun D nD => lc_signs (x := z) (fun i H' => H' D = some (.lst (offs (z.cps.toList.take i))) ∧ Same H H') ⟨upd_same, Same.new nD⟩ ?_ ?_⟩
          · rintro i c H' hc ⟨e, s'⟩
            have hc' : z.cps.toList[i]? = some c := by simpa using hc
            have il : i < z.length := (Array.getElem?_eq_some_iff.mp hc).1
            have az := azC_le c
            have keep : azC c = false → ∃ acc, H' D = some (.lst acc) ∧ acc.length < sizeLine ∧ (upd H' D (.lst (acc ++ [.str ⟨#[c]⟩]))) D = some (.lst (offs (z.cps.toList.take (i + 1)))) ∧ Same H (upd H' D (.lst (acc ++ [.str ⟨#[c]⟩]))) := fun ea => by
              refine ⟨_, e, ?_, ?_, fun b u h => ?_⟩
              · exact Nat.lt_of_le_of_lt (offs_len _) (small1000 (by rw [List.length_take]; omega))
              · rw [upd_same, offs_more hc', ea]
                rfl
              · rw [upd_ne (ne_of_none h nD)]
                exact s' b u h
            have skip : azC c = true → H' D = some (.lst (offs (z.cps.toList.take (i + 1)))) ∧ Same H H' := fun ea => by
              rw [offs_more hc', ea]
              exact ⟨by simpa using e, s'⟩
            refine ⟨rfl, _, rfl, _, _, rfl, rfl, _, rfl, ite2 (fun k1 => ?_) (fun k1 => ?_)⟩
            · have k1' : (!decide (([c] : List Nat) < [97])) = true := k1
              rw [k1', Bool.true_and] at az
              refine ⟨_, _, rfl, rfl, _, rfl, ite2 (fun k2 => ?_) (fun k2 => ?_)⟩
              · have k2' : (!(!decide (([122] : List Nat) < [c]))) = true := k2
                obtain ⟨acc, a1, a2, a3, a4⟩ := keep (by rw [← az]; simpa using k2')
                exact ⟨_, rfl, acc, a1, a2, a3, a4⟩
              · have k2' : ¬ (!(!decide (([122] : List Nat) < [c]))) = true := k2
                exact skip (by rw [← az]; simpa using k2')
            · have k1' : ¬ (!decide (([c] : List Nat) < [97])) = true := k1
              rw [Bool.eq_false_iff.mpr k1', Bool.false_and] at az
              obtain ⟨acc, a1, a2, a3, a4⟩ := keep az.symm
              exact ⟨_, rfl, iteT ⟨_, rfl, acc, a1, a2, a3, a4⟩⟩
          · rintro H' ⟨e, s'⟩
            have et : z.cps.toList.take z.cps.size = z.cps.toList := List.take_of_length_le (by simp)
            rw [et] at e
            refine ⟨by decide, fun p np => ⟨D, p, _, rfl, rfl, SqL.of ((Same.new np) _ _ e), SqL.of upd_same, ?_⟩⟩
            have e2 : nameB (.str z) = (offs z.cps.toList).isEmpty := by
              show (_ && _ && _) = _
              rw [decide_eq_true l1, decide_eq_true l8, Bool.true_and, Bool.true_and, offs_empty]
            rw [← e2]
            exact q _ (s'.trans (Same.new np))
      · have e : nameB (.str z) = false := by
          show (_ && _ && _) = false
          rw [decide_eq_false (show ¬ 1 ≤ z.length from fun h => c1 (decide_eq_true (by omega))), Bool.false_and, Bool.false_and]
        rw [e] at q
        exact ⟨_, rfl, iteT (q _ (Same.refl _))⟩
    | _ => exact iteT (iteT (q _ (Same.refl _)))
end
end Pr
namespace Pr
open PySem PySem.Spec PyProof.Rows L2 Gd
/-- are_names, as the heap holds the value -/
def namesB (H : Hp) : V → Bool
  | .ref a => match H a with
    | some (.tup xs) => xs.all nameB
    | _ => false
  | _ => false
def Items (H : Hp) (v : V) : Prop := ∀ a xs, v = .ref a → H a = some (.tup xs) → xs.length ≤ 1000 ∧ ∀ x ∈ xs, (∃ t, Kd H x t) ∧ ∀ z, x = .str z → z.length ≤ 1000000
def spNames : Sp := fun vs H Q _ => ∃ (v : V) (t : String), vs = [v] ∧ Kd H v t ∧ Items H v ∧ ∀ H', Same H H' → Q (.bl (namesB H v)) H'
theorem kit_tup {K : PySem.W.Frag} {H : Hp} {v : V} {t : String} (k : Kd H v t) : PySem.W.kitOne K (.type t) (.type "tuple") = some (t == "tuple") := by
  cases k <;> first | exact kit_ty (r := true) (by decide +kernel) | exact kit_ty (r := false) (by decide +kernel)
section
variable {P : Program} {w : World} {K : PySem.W.Frag} {mg : Str → Option Value} {base : Heap}
theorem scNames : FnScope ["value", "word"] ["value"] (defScope sNames) := ⟨rfl, rfl, rfl, by decide +kernel, rfl, by decide +kernel, by decide +kernel⟩
theorem ok_names {f fN : Addr} {fd dN : FuncData} {tk : Tok} (F : Fun K "are_names" "are_names" sNames f fd) (T : Free mg) (gm : mg "MAX_LETTERS" = some (.int 8 tk)) (FN : Fun K "is_name" "is_name" sName fN dN) (bN : Binds K dN ["value"] []) (gN : mg "is_name" = some (.ref fN)) :
    FnOk P w K mg base CX0 2 f fd ["value"] spNames := by
  have GN : FnOk P w K mg base CX0 1 fN dN ["value"] spName := ok_name FN T gm
  refine F.ok scNames (fun vs H Q E h => ?_) (fun cdv A outer s H vs Q E hr h => ?_)
  · obtain ⟨v, t, rfl, _⟩ := h
    rfl
  · obtain ⟨v, t, rfl, kd, it, q⟩ := h
    refine ⟨_, pss_one (ps_ret (pe_and (pe_callB call_isi (by rfl) T.isi (by decide +kernel) (pa_cons (pv 0) (pa_cons (pe_bltn (v := .ty "tuple") (by rfl) T.tuple (by decide +kernel) rfl) pa_nil)))
      (pe_one (pe_callB (cr_all rfl) (by rfl) T.all (by decide +kernel) (pa_cons (pe_lc (own := [("word", 1)]) (g := gName 1) (by rfl) scNames.nd (pi_tup (pv 0)) (blkOk_by (own := [("word", 1)]) (N := ["value", "word"]) (sc := defScope sNames) (by decide +kernel))
        (fun _ _ _ _ _ => pg_name (i := 1) scNames.nd rfl (Or.inl rfl)) (fun _ _ _ _ _ => pts_nil) (fun _ _ _ _ _ => pe_call GN hr (by rfl) gN FN.kp bN .nil pass0 (pa_cons (pv 1) pa_nil))) pa_nil))))), ?_⟩
    refine ⟨_, rfl, v, _, _, _, _, rfl, .ty "tuple", kd.ty, kit_tup kd, _, rfl, ?_⟩
    cases kd with
    | @tup a xs e =>
      obtain ⟨few, each⟩ := it a xs rfl e
      have en : namesB H (.ref a) = xs.all nameB := by
        show (match H a with | some (.tup xs) => xs.all nameB | _ => false) = _
        rw [e]
      refine iteT ⟨_, rfl, a, rfl, ⟨xs, SqT.of e⟩, fun D nD => lc_tup (K := K) (a := a) (xs := xs) (fun i H' => H' D = some (.lst ((xs.take i).map fun x => .bl (nameB x))) ∧ Same H H') ⟨upd_same, Same.new nD⟩ (fun i H' _ s => SqT.of (s.2 _ _ e)) ?_ ?_⟩
      · rintro i x H' hx ⟨eD, s'⟩
        have m := List.mem_of_getElem? hx
        have il : i < xs.length := (List.getElem?_eq_some_iff.mp hx).1
        obtain ⟨⟨t, kx⟩, zx⟩ := each x m
        refine ⟨rfl, _, rfl, x, t, rfl, kx.same s', zx, _, eD, small1000 (by rw [List.length_map, List.length_take]; omega), ?_, fun b u h => ?_⟩
        · rw [upd_same, List.take_add_one, hx, List.map_append]
          rfl
        · rw [upd_ne (ne_of_none h nD)]
          exact s' b u h
      · rintro H' ⟨eD, s'⟩
        rw [List.take_length] at eD
        refine ⟨D, xs.map nameB, rfl, SqL.of (by rw [eD, List.map_map]; rfl), ?_⟩
        rw [en] at q
        rw [show (xs.map nameB).all id = xs.all nameB by rw [List.all_map]; rfl]
        exact q _ s'
    | @lst a _ e =>
      have en : namesB H (.ref a) = false := by
        show (match H a with | some (.tup xs) => xs.all nameB | _ => false) = _
        rw [e]
      rw [en] at q
      exact iteF (q _ (Same.refl _))
    | @dK a _ e =>
      have en : namesB H (.ref a) = false := by
        show (match H a with | some (.tup xs) => xs.all nameB | _ => false) = _
        rw [e]
      rw [en] at q
      exact iteF (q _ (Same.refl _))
    | _ => exact iteF (q _ (Same.refl _))
/-- the number of figures -/
theorem figures {v : Int} (h0 : 0 ≤ v) : (((toString v : String) : Str)).length ≤ 60 ↔ v < 10 ^ (60 : Int).toNat := by
  obtain ⟨n, rfl⟩ := Int.eq_ofNat_of_zero_le h0
  have e : ((10 : Int) ^ (60 : Int).toNat) = ((10 ^ 60 : Nat) : Int) := by decide +kernel
  have r : (toString ((n : Nat) : Int) : String) = Nat.repr n := rfl
  rw [e, PyProof.Rows.ofString_length, r, Nat.repr, String.toList_ofList, Nat.length_toDigits_le_iff (by decide) (by decide)]
  omega
def spWhole : Sp := fun vs H Q _ => ∃ (v : V) (t : String), vs = [v] ∧ Kd H v t ∧ (∀ i, v = .int i → i.natAbs.log2 < 1920) ∧ Q (.bl (isInt v)) H
theorem scWhole : FnScope ["value"] ["value"] (defScope sWhole) := ⟨rfl, rfl, rfl, by decide +kernel, rfl, by decide +kernel, by decide +kernel⟩
theorem ok_whole {f : Addr} {fd : FuncData} (F : Fun K "_law_whole" "_law_whole" sWhole f fd) (T : Free mg) : FnOk P w K mg base CX0 1 f fd ["value"] spWhole := by
  refine F.ok scWhole (fun vs H Q E h => ?_) (fun cdv A outer s H vs Q E hr h => ?_)
  · obtain ⟨v, t, rfl, _⟩ := h
    rfl
  · obtain ⟨v, t, rfl, kd, hi, q⟩ := h
    refine ⟨_, pss_one (ps_ret (pe_and (pe_callB call_isi (by rfl) T.isi (by decide +kernel) (pa_cons (pv 0) (pa_cons (pe_bltn (v := .ty "int") (by rfl) T.int (by decide +kernel) rfl) pa_nil)))
      (pe_and (pe_not (pe_callB call_isi (by rfl) T.isi (by decide +kernel) (pa_cons (pv 0) (pa_cons (pe_bltn (v := .ty "bool") (by rfl) T.bool (by decide +kernel) rfl) pa_nil))))
        (pe_one (pe_cmpR op_le (pe_callB call_len_str (by rfl) T.len PySem.boot_len (pa_cons (pe_callTy call_str_int (by rfl) T.str (by decide +kernel) (pa_cons (pe_callB call_abs (by rfl) T.abs (by decide +kernel) (pa_cons (pv 0) pa_nil)) pa_nil)) pa_nil)) pe_int (nomark _)))))), ?_⟩
    refine ⟨_, rfl, v, _, _, _, _, rfl, .ty "int", kd.ty, kit_int kd, _, rfl, ?_⟩
    cases kd with
    | int i =>
      have b := hi i rfl
      have n0 : 0 ≤ (if i < 0 then -i else i) := by split <;> omega
      have nb : (if i < 0 then -i else i).natAbs = i.natAbs := by split <;> omega
      have lg : (if i < 0 then -i else i).natAbs.log2 < 1920 := by
        rw [nb]
        exact b
      refine iteT ⟨_, rfl, _, _, _, _, _, rfl, .ty "bool", (Kd.int (H := H) i).ty, kit_bool (Kd.int (H := H) i), _, rfl, _, rfl, iteT ⟨_, rfl, i, rfl, _, rfl, lg, _, rfl, ?_, _, _, rfl, rfl, ?_⟩⟩
      · exact Nat.le_trans (PyProof.Rows.int_text_len_1921 lg) (by decide)
      · have e : isInt (.int i) = decide ((((toString (if i < 0 then -i else i) : String) : Str).length : Int) ≤ 60) := by
          show decide _ = decide _
          apply decide_eq_decide.mpr
          rw [← figures n0]
          omega
        rw [e] at q
        exact q
    | bl b => exact iteT ⟨_, rfl, _, _, _, _, _, rfl, .ty "bool", (Kd.bl (H := H) b).ty, kit_bool (Kd.bl (H := H) b), _, rfl, _, rfl, iteF q⟩
    | _ => exact iteF q
end
end Pr
namespace Pr
open PySem PySem.Spec PyProof.Rows L2 Gd
/-! ### list('..') -/
def signsV (z : Str) : List V := z.cps.toList.map fun c => .str ⟨#[c]⟩
theorem vals_at : ∀ {xs : List V} {us : List Value}, xs.length = us.length → (∀ (i : Nat) (x : V) (u : Value), xs[i]? = some x → us[i]? = some u → RelV x u) → Vals xs us
  | [], [], _, _ => .nil
  | [], _ :: _, h, _ => by simp at h
  | _ :: _, [], h, _ => by simp at h
  | x :: xs, u :: us, h, k => .cons (k 0 x u rfl rfl) (vals_at (by simpa using h) fun i y v a b => k (i + 1) y v (by simpa using a) (by simpa using b))
theorem call_list_text {X : Cx} (hc : X.calm = true) : CallR X (.type "list") (fun vs H Q => ∃ z, vs = [.str z] ∧ z.length ≤ 1000 ∧ ∀ l, H l = none → Q (.ref l) (upd H l (.lst (signsV z)))) := by
  intro pins s σ H vs us Q I r h
  obtain ⟨z, rfl, hz, q⟩ := h
  obtain ⟨u, rfl, t, rfl⟩ := vals1 r
  have hz2 : z.cps.size ≤ 1000 := hz
  refine call_list_str (I.ok.hd hc) z t (fun h' tk acc c keep at_ items => ?_) (by rw [sizeLine_eq]; omega)
  have hf : H s.heap.objs.size = none := I.hok.fresh (Nat.le_refl _)
  refine ⟨.ref s.heap.objs.size, upd H s.heap.objs.size (.lst (signsV z)), I.laid keep (Nat.le_refl _) ?_, rfl, q _ hf⟩
  refine ⟨by rw [sizeLine_eq]; simp [signsV]; omega, acc.toList, c, vals_at (by simp [signsV, items.1]) fun i x u a b => ?_, by simpa using at_⟩
  obtain ⟨k, u', hk, rfl⟩ := items.2 i u (by simpa using b)
  have e : (signsV z)[i]? = some (.str ⟨#[k]⟩) := by
    unfold signsV
    rw [List.getElem?_map, Array.getElem?_toList, hk]
    rfl
  rw [e] at a
  cases a
  exact ⟨u', rfl⟩
/-! ### texts of few signs -/
def six : List Nat := [97, 98, 99, 120, 121, 122]
theorem SOk.app {m n : Nat} {x y : Str} (h : SOk m x) (k : SOk n y) : SOk (m + n) (x ++ y) := by
  refine ⟨?_, fun c hc => ?_⟩
  · rw [strLen_append]
    have := h.1
    have := k.1
    omega
  · have e : (x ++ y).cps.toList = x.cps.toList ++ y.cps.toList := Array.toList_append
    rw [e] at hc
    exact (List.mem_append.mp hc).elim (h.2 c) (k.2 c)
theorem SOk.cut {m : Nat} {x : Str} (h : SOk m x) (lo hi : Option Int) : SOk m (cutS x lo hi) := by
  have hs : ∀ c ∈ (cutS x lo hi).cps.toList, c ∈ x.cps.toList := fun c hc => List.mem_of_mem_drop (List.mem_of_mem_take (by simpa [cutS] using hc))
  refine ⟨?_, fun c hc => h.2 c (hs c hc)⟩
  have := h.1
  have e : (cutS x lo hi).length = ((x.cps.toList.drop (HT.sIx x.length 0 lo)).take (HT.sIx x.length x.length hi - HT.sIx x.length 0 lo)).length := by simp [cutS, Str.length]
  rw [e]
  refine Nat.le_trans (List.length_take_le' _ _) ?_
  rw [List.length_drop]
  have : x.cps.toList.length = x.length := by simp [Str.length]
  omega
theorem join_signs : ∀ (ys : List Str), (∀ y ∈ ys, y.length ≤ 1 ∧ ∀ c ∈ y.cps.toList, c ∈ six) → (Str.join "" ys).length ≤ ys.length ∧ ∀ c ∈ (Str.join "" ys).cps.toList, c ∈ six
  | [], _ => ⟨by decide, fun c h => by simp [Str.join, Str.empty] at h⟩
  | [y], h => by
    have := h y List.mem_cons_self
    exact ⟨this.1, this.2⟩
  | y :: z :: r, h => by
    have hy := h y List.mem_cons_self
    have ih := join_signs (z :: r) fun x m => h x (List.mem_cons_of_mem _ m)
    have e : Str.join "" (y :: z :: r) = y ++ "" ++ Str.join "" (z :: r) := rfl
    rw [e]
    refine ⟨?_, fun c hc => ?_⟩
    · rw [strLen_append, strLen_append]
      have e0 : ("" : Str).length = 0 := rfl
      have := ih.1
      have := hy.1
      rw [List.length_cons]
      omega
    · have e2 : (y ++ "" ++ Str.join "" (z :: r)).cps.toList = y.cps.toList ++ ("" : Str).cps.toList ++ (Str.join "" (z :: r)).cps.toList := by
        have a1 : ∀ (a b : Str), (a ++ b).cps.toList = a.cps.toList ++ b.cps.toList := fun a b => Array.toList_append
        rw [a1, a1]
      rw [e2] at hc
      rcases List.mem_append.mp hc with hc | hc
      · rcases List.mem_append.mp hc with hc | hc
        · exact hy.2 c hc
        · have e0 : ("" : Str).cps.toList = [] := by decide +kernel
          rw [e0] at hc
          cases hc
      · exact ih.2 c hc
theorem six_lt {c : Nat} (h : c ∈ six) : c < 16 ^ 8 := by
  have : ∀ c ∈ six, c < 16 ^ 8 := by decide
  exact this c h
theorem upper_ok {z : Str} {m : Nat} (hl : z.length ≤ m) (h : ∀ c ∈ z.cps.toList, c ∈ six) : SOk (3 * m) (Txt.upper z) := by
  refine ⟨Nat.le_trans (PyProof.Rows.len_upper z) (by omega), fun c hc => ?_⟩
  have hm : ∃ c0 ∈ z.cps.toList, c ∈ Unicode.upperOf c0 := by
    simp only [Txt.upper, placed, Array.mem_toList_iff, Array.mem_flatten, Array.mem_mapIdx] at hc
    obtain ⟨a, ⟨i, hi, rfl⟩, hc⟩ := hc
    exact ⟨z.cps[i], by simp, by simpa using hc⟩
  obtain ⟨c0, m0, mc⟩ := hm
  have t : ∀ c0 ∈ six, ∀ c ∈ Unicode.upperOf c0, c < 16 ^ 8 := by decide +kernel
  exact t c0 (h c0 m0) c mc
theorem sok_of (s : String) : SOk (Str.ofString s).length (Str.ofString s) := by
  refine ⟨Nat.le_refl _, fun c h => ?_⟩
  rw [Str.ofString_eq_toList] at h
  simp only [List.mem_map] at h
  obtain ⟨ch, _, rfl⟩ := h
  have := ch.val.toNat_lt
  have e : ch.toNat = ch.val.toNat := rfl
  rw [e]
  exact Nat.lt_of_lt_of_le this (by decide)
end Pr
namespace Pr
open PySem PySem.Spec PyProof.Rows L2 Gd
/-! ### words and numbers that are nearly right -/
/-- what is new -/
def Nw (H H' : Hp) : Hp := fun b => if H b = none then H' b else none
theorem Nw.of {H H' : Hp} {b : Addr} {o : HO} (h : H b = none) (e : H' b = some o) : Nw H H' b = some o := by
  unfold Nw
  rw [if_pos h]
  exact e
theorem Nw.some_of {H H' : Hp} {b : Addr} {o : HO} (e : Nw H H' b = some o) : H b = none ∧ H' b = some o := by
  unfold Nw at e
  by_cases h : H b = none
  · rw [if_pos h] at e
    exact ⟨h, e⟩
  · rw [if_neg h] at e
    cases e
theorem Kp.free {d b : Addr} {H H' : Hp} (k : Kp d H H') (n : b ≠ d) (h : H' b = none) : H b = none := by
  cases e : H b with
  | none => rfl
  | some o =>
    rw [k b o n e] at h
    cases h
def spNear : Sp := fun vs H Q _ => ∃ (d : Addr) (n : Nat), vs = [.ref d] ∧ Dice H d n ∧ n + 20 < 1000000 ∧ ∀ (v : V) (H' : Hp), Kp d H H' → Vd (Nw H H') 1 20000 v → Dice H' d (n + 20) → Q v H'
section
variable {P : Program} {w : World} {K : PySem.W.Frag} {mg : Str → Option Value} {base : Heap} {fR fP fM : Addr} {dR dP dM : FuncData}
theorem scNearW : FnScope ["dice", "letters", "word", "at", "sign", "turn"] ["dice"] (defScope sNearW) := ⟨rfl, rfl, rfl, by decide +kernel, rfl, by decide +kernel, by decide +kernel⟩
theorem ok_nearW {f : Addr} {fd : FuncData} (F : Fun K "_law_near_word" "_law_near_word" sNearW f fd) (D : Draws K mg fR fP fM dR dP dM) (T : Free mg) : FnOk P w K mg base CX0 3 f fd ["dice"] spNear := by
  have GR : FnOk P w K mg base CX0 1 fR dR ["dice", "total"] spRoll := ok_roll D.FR T
  have GP : FnOk P w K mg base CX0 2 fP dP ["dice", "items"] (spPick K) := ok_pick D T
  refine F.ok scNearW (fun vs H Q E h => ?_) (fun cdv A outer s H vs Q E hr h => ?_)
  · obtain ⟨d, n, rfl, _⟩ := h
    rfl
  · obtain ⟨d, n, rfl, di, hn, q⟩ := h
    have r1 : Room 1 _ := hr.mono (by decide)
    obtain ⟨ds, hd⟩ := di.there
    refine ⟨_, pss_cons (ps_set (i := 1) scNearW.nd rfl (.inr rfl) (pe_callTy (call_list_text rfl) (by rfl) T.list (by decide +kernel) (pa_cons pe_str pa_nil))) (pss_cons (ps_set (i := 2) scNearW.nd rfl (.inl rfl) (pe_join pe_str (pe_lc (own := [("turn", 5)]) (g := gName 5) (by rfl) scNearW.nd (pi_range1 rfl T.range (pa_cons (pe_op op_add pe_int (pe_call GR r1 (by rfl) D.gR D.FR.kp D.bR .nil pass0 (pa_cons (pv 0) (pa_cons pe_int pa_nil)))) pa_nil)) (blkOk_by (own := [("turn", 5)]) (N := ["dice", "letters", "word", "at", "sign", "turn"]) (sc := defScope sNearW) (by decide +kernel)) (fun _ _ _ _ _ => pg_name (i := 5) scNearW.nd rfl (Or.inl rfl)) (fun _ _ _ _ _ => pts_nil) (fun _ _ _ _ _ => pe_call GP hr (by rfl) D.gP D.FP.kp D.bP .nil pass0 (pa_cons (pv 0) (pa_cons (pv 1) pa_nil)))))) (pss_cons (ps_set (i := 3) scNearW.nd rfl (.inl rfl) (pe_call GR r1 (by rfl) D.gR D.FR.kp D.bR .nil pass0 (pa_cons (pv 0) (pa_cons (pe_op op_add (pe_callB call_len_str (by rfl) T.len PySem.boot_len (pa_cons (pv 2) pa_nil)) pe_int) pa_nil)))) (pss_cons (ps_set (i := 4) scNearW.nd rfl (.inl rfl) (pe_call GP hr (by rfl) D.gP D.FP.kp D.bP .nil pass0 (pa_cons (pv 0) (pa_cons (pe_op op_cat (pe_callTy (call_list_text rfl) (by rfl) T.list (by decide +kernel) (pa_cons pe_str pa_nil)) (pe_lst (pa_cons pe_str (pa_cons pe_str (pa_cons pe_str pa_nil))))) pa_nil)))) (pss_one (ps_ret (pe_call GP hr (by rfl) D.gP D.FP.kp D.bP .nil pass0 (pa_cons (pv 0) (pa_cons (pe_lst (pa_cons (pv 2) (pa_cons (pv 2) (pa_cons (pe_op op_add_str (pe_op op_add_str (pe_slice sl_str (pv 2) po_none (po_some (pv 3))) (pv 4)) (pe_slice sl_str (pv 2) (po_some (pv 3)) po_none)) (pa_cons (pe_upper (pv 2)) (pa_cons (pe_tup (pa_cons (pv 2) pa_nil)) (pa_cons (pe_lst (pa_cons (pv 2) pa_nil)) (pa_cons (pe_op op_add_str (pv 2) pe_str) pa_nil)))))))) pa_nil)))))))), ?_⟩
    -- letters
    refine ⟨_, rfl, by decide, fun l nl => ?_⟩
    have dl : d ≠ l := ne_of_none hd nl
    -- word
    refine ⟨⟨_, rfl⟩, _, rfl, d, 9, n, rfl, di.same (Same.new nl), by omega, by decide, by decide +kernel, fun r o r0 r1' di1 => ⟨_, _, rfl, rfl, _, rfl, by omega, by omega, fun D nD => ?_⟩⟩
    have hl1 : (upd (upd H l (.lst (signsV "abcxyz"))) d o) l = some (.lst (signsV "abcxyz")) := by rw [upd_ne dl.symm, upd_same]
    have lD : l ≠ D := ne_of_none hl1 nD
    obtain ⟨ds1, hd1⟩ := di1.there
    have dD : d ≠ D := ne_of_none hd1 nD
    have HD : H D = none := by
      rw [upd_ne dD.symm, upd_ne lD.symm] at nD
      exact nD
    refine lc_range (lo := 0) (n := (1 + r).toNat) (fun i H' => ∃ ys : List Str, H' D = some (.lst (ys.map V.str)) ∧ ys.length = i ∧ (∀ y ∈ ys, y.length ≤ 1 ∧ ∀ c ∈ y.cps.toList, c ∈ six) ∧ H' l = some (.lst (signsV "abcxyz")) ∧ Kp d H H' ∧ Dice H' d (n + 1 + i))
      ⟨[], upd_same, rfl, fun y m => (nomatch m), by rw [upd_ne lD]; exact hl1, ((Kp.new nl).trans Kp.upd).trans (Kp.new nD), di1.same (Same.new nD)⟩ ?_ ?_
    · rintro i H' hi ⟨ys, eD, ly, six6, hl, kp, di2⟩
      have hi' : i < 9 := by omega
      refine ⟨rfl, _, rfl, _, rfl, d, l, n + 1 + i, _, rfl, dl.symm, .inl (SqL.of hl), by decide +kernel, by decide +kernel, di2, by omega, fun v o2 mv di3 => ?_⟩
      obtain ⟨c, mc, rfl⟩ := List.mem_map.mp (show v ∈ (("abcxyz" : Str).cps.toList.map fun c => V.str ⟨#[c]⟩) from mv)
      have c6 : c ∈ six := by
        have e : ("abcxyz" : Str).cps.toList = six := by decide +kernel
        rw [e] at mc
        exact mc
      have kd2 : Kp d H' (upd H' d o2) := Kp.upd
      refine ⟨_, kd2 _ _ dD.symm eD, small1000 (by rw [List.length_map]; omega), ys ++ [⟨#[c]⟩], by rw [upd_same, List.map_append]; rfl, by rw [List.length_append]; simp [ly], fun y m => ?_, ?_, fun b u nb e => ?_, ?_⟩
      · rcases List.mem_append.mp m with m | m
        · exact six6 y m
        · rw [List.mem_singleton.mp m]
          exact ⟨Nat.le_refl _, fun x hx => by
            rw [List.mem_singleton.mp (show x ∈ [c] from hx)]
            exact c6⟩
      · rw [upd_ne lD]
        exact kd2 _ _ dl.symm hl
      · rw [upd_ne (ne_of_none e HD)]
        exact kd2 _ _ nb (kp _ _ nb e)
      · refine (di3.kept fun u e => ?_).more (by omega) (by omega)
        rw [upd_ne dD]
        exact e
    · rintro H' ⟨ys, eD, ly, six6, hl, kp, di2⟩
      have lr : (1 + r).toNat ≤ 9 := by omega
      have sums : (ys.map (·.length)).sum ≤ ys.length := by
        have : ∀ zs : List Str, (∀ y ∈ zs, y.length ≤ 1) → (zs.map (·.length)).sum ≤ zs.length := fun zs => by
          induction zs with
          | nil => intro _; simp
          | cons z r ih =>
            intro h
            have := h z List.mem_cons_self
            have := ih fun y m => h y (List.mem_cons_of_mem _ m)
            rw [List.map_cons, List.sum_cons, List.length_cons]
            omega
        exact this ys fun y m => (six6 y m).1
      refine ⟨"", D, ys, rfl, rfl, .inl (SqL.of eD), by rw [show ("" : Str).length = 0 from rfl]; omega, ?_⟩
      rw [TL.join_eq]
      obtain ⟨wl, w6⟩ := join_signs ys six6
      generalize Str.join "" ys = word at wl w6
      have wok : SOk 9 word := ⟨by omega, fun c m => six_lt (w6 c m)⟩
      have w9 : word.length ≤ 9 := wok.1
      -- at
      refine ⟨_, rfl, _, rfl, word, rfl, by rw [sizeLine_eq]; omega, _, _, rfl, rfl, d, _, _, rfl, di2, by omega, by omega, by omega, fun a1 o3 a0 a2 di3 => ?_⟩
      obtain ⟨ds3, hd3⟩ := di3.there
      -- sign
      refine ⟨_, rfl, _, rfl, by decide, fun l2 nl2 => ?_⟩
      refine ⟨by decide, fun l3 nl3 => ⟨l2, l3, _, _, rfl, rfl, (Same.new nl3) _ _ upd_same, upd_same, by decide +kernel, fun l4 nl4 => ?_⟩⟩
      have k3 := ((Kp.trans kp (Kp.upd (d := d) (o := o3))).trans (Kp.new nl2 (o := .lst (signsV "_A 0-{`z'")))).trans (Kp.new nl3 (o := .lst [.str "", .str "\n", .str "ab"]))
      have di4 := ((di3.same (Same.new nl2 (o := .lst (signsV "_A 0-{`z'")))).same (Same.new nl3 (o := .lst [.str "", .str "\n", .str "ab"])))
      obtain ⟨ds4, hd4⟩ := di4.there
      have k4 := k3.trans (Kp.new nl4 (o := .lst (signsV "_A 0-{`z'" ++ [.str "", .str "\n", .str "ab"])))
      have di5 := di4.same (Same.new nl4 (o := .lst (signsV "_A 0-{`z'" ++ [.str "", .str "\n", .str "ab"])))
      refine ⟨d, l4, _, _, rfl, (ne_of_none hd4 nl4).symm, .inl (SqL.of upd_same), by simp, by decide +kernel, di5, by omega, fun v o5 mv di6 => ?_⟩
      obtain ⟨sign, rfl, sok⟩ : ∃ z, v = .str z ∧ SOk 2 z := by
        rcases List.mem_append.mp mv with mv | mv
        · obtain ⟨c, mc, rfl⟩ := List.mem_map.mp (show v ∈ (("_A 0-{`z'" : Str).cps.toList.map fun c => V.str ⟨#[c]⟩) from mv)
          have t : ∀ c ∈ ("_A 0-{`z'" : Str).cps.toList, c < 16 ^ 8 := by decide +kernel
          exact ⟨_, rfl, ⟨(show 1 ≤ 2 by decide), fun x hx => by
            rw [List.mem_singleton.mp (show x ∈ [c] from hx)]
            exact t c mc⟩⟩
        · rcases List.mem_cons.mp mv with rfl | mv
          · exact ⟨_, rfl, by decide, by decide +kernel⟩
          rcases List.mem_cons.mp mv with rfl | mv
          · exact ⟨_, rfl, by decide, by decide +kernel⟩
          rw [List.mem_singleton.mp mv]
          exact ⟨_, rfl, by decide, by decide +kernel⟩
      obtain ⟨ds6, hd6⟩ := di6.there
      have k6 := k4.trans (Kp.upd (d := d) (o := o5))
      -- the values
      have s1 : SOk 20 (cutS word none (some a1) ++ sign ++ cutS word (some a1) none) := (((wok.cut none (some a1)).app sok).app (wok.cut (some a1) none))
      have s1l := (((wok.cut none (some a1)).app sok)).1
      have c1 := (wok.cut none (some a1)).1
      have c2 := (wok.cut (some a1) none).1
      have c3 := sok.1
      have s2 : SOk 27 (Txt.upper word) := upper_ok (m := 9) w9 w6
      have s3 : SOk 10 (word ++ "_") := wok.app (n := 1) ⟨by decide, by decide +kernel⟩
      have bound : ∀ {x : Str} {k : Nat}, SOk k x → k ≤ 30 → ∀ {G : Hp}, Vd G 0 302 (.str x) := fun {x k} h hk {G} => (Vd.text (k := 30) (h.le hk) (by decide))
      have wz : word.length ≤ sizeLine := by
        rw [sizeLine_eq]
        omega
      refine ⟨_, rfl, _, rfl, _, rfl, _, rfl, _, rfl, _, rfl, word, rfl, wz, _, rfl, _, _, rfl, rfl, by rw [sizeLine_eq]; omega, _, rfl, _, rfl, _, rfl, word, rfl, wz, _, _, rfl, rfl, by rw [strLen_append] at s1l ⊢; rw [sizeLine_eq]; omega, ?_⟩
      refine ⟨_, rfl, ⟨_, rfl⟩, word, rfl, rfl, by omega, ?_⟩
      refine ⟨_, rfl, by show 1 ≤ sizeLine; decide, fun t1 nt1 => ⟨_, rfl, by show 1 ≤ sizeLine; decide, fun l5 nl5 => ?_⟩⟩
      refine ⟨_, rfl, word, "_", rfl, rfl, by rw [sizeLine_eq]; show word.length + 1 ≤ _; omega, by show 7 ≤ sizeLine; decide, fun l6 nl6 => ?_⟩
      have d1 : t1 ≠ d := (ne_of_none hd6 nt1).symm
      have hd7 := (Same.new nt1 (o := .tup [.str word])) _ _ hd6
      have d2 : l5 ≠ d := (ne_of_none hd7 nl5).symm
      have hd8 := (Same.new nl5 (o := .lst [.str word])) _ _ hd7
      have d3 : l6 ≠ d := (ne_of_none hd8 nl6).symm
      have di7 := ((di6.same (Same.new nt1 (o := .tup [.str word]))).same (Same.new nl5 (o := .lst [.str word])))
      have k7 := ((k6.trans (Kp.new nt1 (o := .tup [.str word]))).trans (Kp.new nl5 (o := .lst [.str word])))
      refine ⟨d, l6, _, _, rfl, d3, .inl (SqL.of upd_same), by simp, by show 7 ≤ 1000; decide, di7.same (Same.new nl6), by omega, fun v o6 mv di8 => ?_⟩
      refine q v _ ((k7.trans (Kp.new nl6)).trans Kp.upd) ?_ (di8.more (by omega) (by omega))
      have kfin := fun o : HO => ((Kp.new (d := d) nl6 (o := o)).trans (Kp.upd (d := d) (o := o6)))
      have ht := fun o : HO => Nw.of (Kp.free k6 d1 nt1) (kfin o _ _ d1 ((Same.new nl5 (o := .lst [.str word])) _ _ (upd_same (H := _) (a := t1) (o := .tup [.str word]))))
      have hl5 := fun o : HO => Nw.of (Kp.free (k6.trans (Kp.new nt1 (o := .tup [.str word]))) d2 nl5) (kfin o _ _ d2 (upd_same (a := l5) (o := .lst [.str word])))
      have tx : ∀ {x : Str} {k : Nat}, SOk k x → k ≤ 30 → ∀ {G : Hp}, Vd G 1 20000 (.str x) := fun {x k} h hk {G} => (bound h hk).le (by decide) (by decide)
      rcases List.mem_cons.mp mv with rfl | mv
      · exact tx wok (by decide)
      rcases List.mem_cons.mp mv with rfl | mv
      · exact tx wok (by decide)
      rcases List.mem_cons.mp mv with rfl | mv
      · exact tx s1 (by decide)
      rcases List.mem_cons.mp mv with rfl | mv
      · exact tx s2 (by decide)
      rcases List.mem_cons.mp mv with rfl | mv
      · exact (Vd.tup (n := 0) (m := 302) (k := 1) (ht _) (all1 (bound wok (by decide))) (by show 1 ≤ 1; decide) (by decide)).le (by decide) (by decide)
      rcases List.mem_cons.mp mv with rfl | mv
      · exact (Vd.lst (n := 0) (m := 302) (k := 1) (hl5 _) (all1 (bound wok (by decide))) (by show 1 ≤ 1; decide)).le (by decide) (by decide)
      rw [List.mem_singleton.mp mv]
      exact tx s3 (by decide)
theorem scNearN : FnScope ["dice", "great", "number"] ["dice"] (defScope sNearN) := ⟨rfl, rfl, rfl, by decide +kernel, rfl, by decide +kernel, by decide +kernel⟩
theorem ok_nearN {f : Addr} {fd : FuncData} (F : Fun K "_law_near_number" "_law_near_number" sNearN f fd) (D : Draws K mg fR fP fM dR dP dM) (T : Free mg) : FnOk P w K mg base CX0 3 f fd ["dice"] spNear := by
  have GR : FnOk P w K mg base CX0 1 fR dR ["dice", "total"] spRoll := ok_roll D.FR T
  have GP : FnOk P w K mg base CX0 2 fP dP ["dice", "items"] (spPick K) := ok_pick D T
  refine F.ok scNearN (fun vs H Q E h => ?_) (fun cdv A outer s H vs Q E hr h => ?_)
  · obtain ⟨d, n, rfl, _⟩ := h
    rfl
  · obtain ⟨d, n, rfl, di, hn, q⟩ := h
    have r1 : Room 1 _ := hr.mono (by decide)
    obtain ⟨ds, hd⟩ := di.there
    refine ⟨_, pss_cons (ps_set (i := 1) scNearN.nd rfl (.inl rfl) (pe_call GP hr (by rfl) D.gP D.FP.kp D.bP .nil pass0 (pa_cons (pv 0) (pa_cons (pe_lst (pa_cons pe_int (pa_cons pe_int (pa_cons pe_int (pa_cons (pe_op op_pow pe_int pe_int) (pa_cons (pe_op op_sub (pe_op op_pow pe_int pe_int) pe_int) (pa_cons (pe_op op_pow pe_int pe_int) (pa_cons (pe_op op_mulW (pe_op op_pow pe_int pe_int) pe_int) (pa_cons (pe_op op_mulW (pe_op op_pow pe_int pe_int) (pe_op op_pow pe_int pe_int)) pa_nil))))))))) pa_nil)))) (pss_cons (ps_set (i := 2) scNearN.nd rfl (.inl rfl) (pe_op op_sub (pe_op op_add (pv 1) (pe_call GR r1 (by rfl) D.gR D.FR.kp D.bR .nil pass0 (pa_cons (pv 0) (pa_cons pe_int pa_nil)))) pe_int)) (pss_one (ps_ret (pe_call GP hr (by rfl) D.gP D.FP.kp D.bP .nil pass0 (pa_cons (pv 0) (pa_cons (pe_lst (pa_cons (pv 2) (pa_cons (pe_op op_sub pe_int (pv 2)) (pa_cons (pv 2) (pa_cons (pe_callTy call_str_int (by rfl) T.str (by decide +kernel) (pa_cons (pv 2) pa_nil)) (pa_cons (pe_tup (pa_cons (pv 2) pa_nil)) (pa_cons (pe_callTy call_bool1 (by rfl) T.bool (by decide +kernel) (pa_cons (pv 2) pa_nil)) (pa_cons (pe_lst (pa_cons (pv 2) pa_nil)) pa_nil)))))))) pa_nil)))))), ?_⟩
    refine ⟨_, rfl, 10, 59, rfl, rfl, c10 (k := 59) (by decide), 10, 60, rfl, rfl, c10 (k := 60) (by decide), _, _, rfl, rfl, 10, 60, rfl, rfl, c10 (k := 60) (by decide), 10, 60, rfl, rfl, c10 (k := 60) (by decide), _, _, rfl, rfl, wide_mul (a := 400) (b := 400) (by decide +kernel) (by decide +kernel) (by decide) (by decide) (by decide),
      10, 60, rfl, rfl, c10 (k := 60) (by decide), 10, 39, rfl, rfl, c10 (k := 39) (by decide), _, _, rfl, rfl, wide_mul (a := 400) (b := 400) (by decide +kernel) (by decide +kernel) (by decide) (by decide) (by decide), by show 8 ≤ sizeLine; decide, fun l nl => ?_⟩
    refine ⟨d, l, n, _, rfl, (ne_of_none hd nl).symm, .inl (SqL.of upd_same), by simp, by show 8 ≤ 1000; decide, di.same (Same.new nl), by omega, fun v o mv di1 => ?_⟩
    obtain ⟨great, rfl, gb⟩ : ∃ z, v = .int z ∧ 0 ≤ z ∧ z < 2 ^ 400 := by
      have t : ∀ z ∈ ([0, 1, 7, 10 ^ (59 : Int).toNat, 10 ^ (60 : Int).toNat - 1, 10 ^ (60 : Int).toNat, 10 ^ (60 : Int).toNat * 10, 10 ^ (60 : Int).toNat * 10 ^ (39 : Int).toNat] : List Int), 0 ≤ z ∧ z < 2 ^ 400 := by decide +kernel
      obtain ⟨z, mz, rfl⟩ := List.mem_map.mp (show v ∈ ([0, 1, 7, 10 ^ (59 : Int).toNat, 10 ^ (60 : Int).toNat - 1, 10 ^ (60 : Int).toNat, 10 ^ (60 : Int).toNat * 10, 10 ^ (60 : Int).toNat * 10 ^ (39 : Int).toNat] : List Int).map V.int from mv)
      exact ⟨z, rfl, t z mz⟩
    -- number
    refine ⟨_, rfl, _, rfl, d, 3, _, rfl, di1, by omega, by decide, by decide +kernel, fun r o2 r0 r1' di2 => ⟨_, _, rfl, rfl, _, _, rfl, rfl, ?_⟩⟩
    have k2 := fun o1 : HO => ((Kp.new (d := d) nl (o := o1)).trans (Kp.upd (d := d) (o := o))).trans (Kp.upd (d := d) (o := o2))
    obtain ⟨num, en⟩ : ∃ z : Int, z = great + r - 1 := ⟨_, rfl⟩
    have nb : num.natAbs < 2 ^ 401 ∧ (0 - num).natAbs < 2 ^ 401 := by
      rw [en]
      omega
    have p19 : (2 : Nat) ^ 401 ≤ 2 ^ 1900 := by decide +kernel
    have lg : num.natAbs.log2 < 1920 := Nat.lt_of_lt_of_le (PySem.Flt.log2_lt_of (by decide) nb.1) (by decide)
    have tl : (((toString num : String) : Str)).length ≤ 1921 := PyProof.Rows.int_text_len_1921 lg
    subst en
    obtain ⟨ds2, hd2⟩ := di2.there
    refine ⟨_, rfl, _, rfl, _, rfl, _, _, rfl, rfl, _, rfl, _, rfl, _, rfl, lg, _, rfl, by show 1 ≤ sizeLine; decide, fun t1 nt1 => ⟨_, rfl, .inl ⟨_, rfl, _, rfl, by show 1 ≤ sizeLine; decide, fun l5 nl5 => ⟨by show 7 ≤ sizeLine; decide, fun l6 nl6 => ?_⟩⟩⟩⟩
    have d1 : t1 ≠ d := (ne_of_none hd2 nt1).symm
    have hd7 := (Same.new nt1 (o := .tup [.int (great + r - 1)])) _ _ hd2
    have d2 : l5 ≠ d := (ne_of_none hd7 nl5).symm
    have hd8 := (Same.new nl5 (o := .lst [.int (great + r - 1)])) _ _ hd7
    have d3 : l6 ≠ d := (ne_of_none hd8 nl6).symm
    have di7 := ((di2.same (Same.new nt1 (o := .tup [.int (great + r - 1)]))).same (Same.new nl5 (o := .lst [.int (great + r - 1)])))
    have k7 := (((k2 _).trans (Kp.new nt1 (o := .tup [.int (great + r - 1)]))).trans (Kp.new nl5 (o := .lst [.int (great + r - 1)])))
    refine ⟨d, l6, _, _, rfl, d3, .inl (SqL.of upd_same), by simp, by show 7 ≤ 1000; decide, di7.same (Same.new nl6), by omega, fun v o6 mv di8 => ?_⟩
    refine q v _ ((k7.trans (Kp.new nl6)).trans Kp.upd) ?_ (di8.more (by omega) (by omega))
    have kfin := fun o : HO => ((Kp.new (d := d) nl6 (o := o)).trans (Kp.upd (d := d) (o := o6)))
    have ht := fun o : HO => Nw.of (Kp.free (k2 _) d1 nt1) (kfin o _ _ d1 ((Same.new nl5 (o := .lst [.int (great + r - 1)])) _ _ (upd_same (H := _) (a := t1) (o := .tup [.int (great + r - 1)]))))
    have hl5 := fun o : HO => Nw.of (Kp.free ((k2 _).trans (Kp.new nt1 (o := .tup [.int (great + r - 1)]))) d2 nl5) (kfin o _ _ d2 (upd_same (a := l5) (o := .lst [.int (great + r - 1)])))
    have I : ∀ {G : Hp}, Vd G 0 2000 (.int (great + r - 1)) := fun {G} => Vd.int _ (by omega)
    have I0 : ∀ {G : Hp}, Vd G 0 2000 (.int (0 - (great + r - 1))) := fun {G} => Vd.int _ (by omega)
    rcases List.mem_cons.mp mv with rfl | mv
    · exact I.le (by decide) (by decide)
    rcases List.mem_cons.mp mv with rfl | mv
    · exact I0.le (by decide) (by decide)
    rcases List.mem_cons.mp mv with rfl | mv
    · exact I.le (by decide) (by decide)
    rcases List.mem_cons.mp mv with rfl | mv
    · exact (Vd.text (k := 1921) ((sok_of _).le tl) (by decide)).le (by decide) (by decide)
    rcases List.mem_cons.mp mv with rfl | mv
    · exact (Vd.tup (n := 0) (m := 2000) (k := 1) (ht _) (all1 I) (by show 1 ≤ 1; decide) (by decide)).le (by decide) (by decide)
    rcases List.mem_cons.mp mv with rfl | mv
    · exact (Vd.bl _).le (by decide) (by decide)
    rw [List.mem_singleton.mp mv]
    exact (Vd.lst (n := 0) (m := 2000) (k := 1) (hl5 _) (all1 I) (by show 1 ≤ 1; decide)).le (by decide) (by decide)
end
end Pr

namespace Pr
open PySem PySem.Spec PyProof.Rows L2 Gd
/-! ### a value, judged -/
/-- the defs of names, as they stand behind the top -/
structure NamesD (K : PySem.W.Frag) (mg : Str → Option Value) (fN fA fW fD : Addr) (dN dA dW dD : FuncData) (tk : Tok) : Prop where
  gm : mg "MAX_LETTERS" = some (.int 8 tk)
  FN : Fun K "is_name" "is_name" sName fN dN
  bN : Binds K dN ["value"] []
  gN : mg "is_name" = some (.ref fN)
  FA : Fun K "are_names" "are_names" sNames fA dA
  bA : Binds K dA ["value"] []
  gA : mg "are_names" = some (.ref fA)
  FW : Fun K "_law_whole" "_law_whole" sWhole fW dW
  bW : Binds K dW ["value"] []
  gW : mg "_law_whole" = some (.ref fW)
  FD : Fun K "_law_is_named" "_law_is_named" sNamed fD dD
  bD : Binds K dD ["value"] []
  gD : mg "_law_is_named" = some (.ref fD)
def spRight : Sp := fun vs H Q _ => ∃ v : V, vs = [v] ∧ Vd H 4 400000 v ∧ ∀ H', Same H H' → Q (.bl true) H'
theorem scRight : FnScope ["value", "names", "text", "count", "due", "turn", "told", "word"] ["value"] (defScope sRight) := ⟨rfl, rfl, rfl, by decide +kernel, rfl, by decide +kernel, by decide +kernel⟩
theorem namesB_same {H H' : Hp} {v : V} {t : String} (k : Kd H v t) (s : Same H H') : namesB H' v = namesB H v := by
  cases k with
  | lst e =>
    show (match H' _ with | some (.tup xs) => xs.all nameB | _ => false) = (match H _ with | some (.tup xs) => xs.all nameB | _ => false)
    rw [e, s _ _ e]
  | tup e =>
    show (match H' _ with | some (.tup xs) => xs.all nameB | _ => false) = (match H _ with | some (.tup xs) => xs.all nameB | _ => false)
    rw [e, s _ _ e]
  | dK e =>
    show (match H' _ with | some (.tup xs) => xs.all nameB | _ => false) = (match H _ with | some (.tup xs) => xs.all nameB | _ => false)
    rw [e, s _ _ e]
  | _ => rfl
theorem Vd.its {H : Hp} {n m : Nat} {v : V} (h : Vd H n m v) : Items H v := h.items
theorem Vd.small {H : Hp} {n m : Nat} {v : V} (h : Vd H n m v) : ∀ i, v = .int i → i.natAbs.log2 < 1920 := fun i e => by
  subst e
  obtain ⟨t, s, _⟩ := h.sm
  cases n with
  | zero =>
    cases s with
    | int _ k => exact k
  | succ n =>
    rcases s with s | ⟨a, _, _, e, _⟩ | ⟨a, _, _, e, _⟩ | ⟨a, _, _, e, _⟩
    · cases s with
      | int _ k => exact k
    all_goals cases e
/-- the four answers -/
def four (H : Hp) (v : V) : List V := [.bl (isInt v), .bl (isCount v), .bl (nameB v), .bl (namesB H v)]
theorem four_sh {G : Hp} {a : Addr} {b1 b2 b3 b4 : Bool} (e : G a = some (.lst [.bl b1, .bl b2, .bl b3, .bl b4])) :
    Sh G 1 (.ref a) (listText [if b1 then "True" else "False", if b2 then "True" else "False", if b3 then "True" else "False", if b4 then "True" else "False"]) :=
  Sh.lst e (.cons (Sc.bl b1) (.cons (Sc.bl b2) (.cons (Sc.bl b3) (.cons (Sc.bl b4) .nil))))
theorem four_len (b1 b2 b3 b4 : Bool) : (listText [if b1 then "True" else "False", if b2 then "True" else "False", if b3 then "True" else "False", if b4 then "True" else "False"]).length ≤ sizeLine := by
  have h := listText_len_le [if b1 then "True" else "False", if b2 then "True" else "False", if b3 then "True" else "False", if b4 then "True" else "False"]
  have k : ∀ b : Bool, (if b then ("True" : Str) else "False").length ≤ 5 := fun b => by cases b <;> decide
  have k1 := k b1
  have k2 := k b2
  have k3 := k b3
  have k4 := k b4
  rw [sizeLine_eq]
  simp only [List.map_cons, List.map_nil, List.sum_cons, List.sum_nil, List.length_cons, List.length_nil] at h
  omega
theorem ps_imp {X : Cx} {st : Stmt} {t t' : TS} (h : PS X st t) (k : ∀ D σ H, t' D σ H → t D σ H) : PS X st t' := ⟨fun pins s σ H D I q => h.run pins s σ H D I (k D σ H q)⟩
/-- the values that are no names -/
def offV (xs : List V) : List V := xs.filter fun x => !nameB x
theorem offV_more {xs : List V} {i : Nat} {x : V} (h : xs[i]? = some x) : offV (xs.take (i + 1)) = offV (xs.take i) ++ (if nameB x then [] else [x]) := by
  unfold offV
  rw [List.take_add_one, h, List.filter_append]
  cases e : nameB x <;> simp [e]
theorem offV_empty (xs : List V) : xs.all nameB = (offV xs).isEmpty := by
  unfold offV
  induction xs with
  | nil => rfl
  | cons x r ih =>
    cases e : nameB x
    · simp [e]
    · simp only [List.all_cons, e, Bool.true_and, ih]
      simp [e]
/-- if isinstance(value, tuple): names = [word for word in value if not _law_is_named(word)] == [] -/
abbrev t_names (K : PySem.W.Frag) : TS := tIfS (tB (tCB (rIsi K) (tCons (tVar 0) (tCons (tC (.ty "tuple")) tNil))))
  (tAsg (tOp (rEqE K) (tLc (iTup K (tVar 0)) (gName 7) (tNot (tB (tCall spNamed [] E0 (tCons (tVar 7) tNil)))) (tVar 7) (([("word", 7)] : List (Str × Nat)).map (·.2))) (tLst tNil)) (gName 1)) tNext
def t_namesB : TS := fun D σ H => ∃ (v : V) (ty : String) (v2 : Option V), σ = [some v, some (.bl false), v2, none, none, none, none, none] ∧ Kd H v ty ∧ Items H v ∧ ∀ H1, Same H H1 → D.nx [some v, some (.bl (namesB H v)), v2, none, none, none, none, none] H1
theorem names_imp {K : PySem.W.Frag} : ∀ D σ H, t_namesB D σ H → t_names K D σ H := by
  rintro D σ H ⟨v, ty, v2, rfl, kd, it, q⟩
  refine ⟨_, rfl, v, _, _, _, _, rfl, .ty "tuple", kd.ty, kit_tup kd, _, rfl, ?_⟩
  cases kd with
  | @tup a xs e =>
    obtain ⟨few, each⟩ := it a xs rfl e
    have en : namesB H (.ref a) = xs.all nameB := by
      show (match H a with | some (.tup xs) => xs.all nameB | _ => false) = _
      rw [e]
    refine iteT ⟨_, rfl, a, rfl, ⟨xs, SqT.of e⟩, fun D nD => lc_tup (K := K) (a := a) (xs := xs) (fun i H' => H' D = some (.lst (offV (xs.take i))) ∧ Same H H') ⟨upd_same, Same.new nD⟩ (fun i H' _ s => SqT.of (s.2 _ _ e)) ?_ ?_⟩
    · rintro i x H' hx ⟨eD, s'⟩
      have m := List.mem_of_getElem? hx
      have il : i < xs.length := (List.getElem?_eq_some_iff.mp hx).1
      obtain ⟨⟨t, kx⟩, zx⟩ := each x m
      refine ⟨rfl, _, rfl, x, t, rfl, kx.same s', zx, fun H2 s2 => ⟨_, rfl, ?_⟩⟩
      have eD2 := s2 _ _ eD
      have more := offV_more hx
      cases en : nameB x with
      | true =>
        rw [en] at more
        exact iteF ⟨by rw [more]; simpa using eD2, s'.trans s2⟩
      | false =>
        rw [en] at more
        refine iteT ⟨_, rfl, _, eD2, ?_, ?_, fun b u h => ?_⟩
        · refine small1000 (Nat.le_trans (List.length_filter_le _ _) ?_)
          rw [List.length_take]
          omega
        · rw [upd_same, more]
          rfl
        · rw [upd_ne (ne_of_none h nD)]
          exact s2 _ _ (s' b u h)
    · rintro H' ⟨eD, s'⟩
      rw [List.take_length] at eD
      refine ⟨by decide, fun p np => ⟨D, p, _, rfl, rfl, SqL.of ((Same.new np) _ _ eD), SqL.of upd_same, ?_⟩⟩
      rw [en, offV_empty] at q
      exact q _ (s'.trans (Same.new np))
  | @lst a _ e =>
    have en : namesB H (.ref a) = false := by
      show (match H a with | some (.tup xs) => xs.all nameB | _ => false) = _
      rw [e]
    rw [en] at q
    exact iteF (q _ (Same.refl _))
  | @dK a _ e =>
    have en : namesB H (.ref a) = false := by
      show (match H a with | some (.tup xs) => xs.all nameB | _ => false) = _
      rw [e]
    rw [en] at q
    exact iteF (q _ (Same.refl _))
  | _ => exact iteF (q _ (Same.refl _))
/-- _law_whole(value) and value >= 0 -/
abbrev t_cnt : TE := tAndV (tCall spWhole [] E0 (tCons (tVar 0) tNil)) (tOp (rI0 fun i j => .bl (decide (j ≤ i))) (tVar 0) (tC (.int 0)))
def t_cntB : TE := fun σ H Q => ∃ (v : V) (ty : String), σ[0]? = some (some v) ∧ Kd H v ty ∧ (∀ i, v = .int i → i.natAbs.log2 < 1920) ∧ Q (.bl (isCount v)) H
theorem pe_imp {X : Cx} {e : Expr} {t t' : TE} (h : PE X e t) (k : ∀ σ H Q, t' σ H Q → t σ H Q) : PE X e t' := ⟨fun pins s σ H Q I q => h.run pins s σ H Q I (k σ H Q q)⟩
theorem cnt_imp : ∀ σ H Q, t_cntB σ H Q → t_cnt σ H Q := by
  rintro σ H Q ⟨v, ty, hv, kd, sm, q⟩
  refine ⟨_, hv, v, ty, rfl, kd, sm, _, rfl, ?_⟩
  cases kd with
  | int i =>
    refine ite2 (fun c => ⟨_, hv, i, _, rfl, rfl, ?_⟩) (fun c => ?_)
    · have e : isCount (.int i) = decide (0 ≤ i) := by
        show (_ && _) = _
        rw [show decide ((if i < 0 then -i else i) < 10 ^ (60 : Int).toNat) = true from c, Bool.true_and]
      rw [e] at q
      exact q
    · have e : isCount (.int i) = false := by
        show (_ && _) = _
        rw [show decide ((if i < 0 then -i else i) < 10 ^ (60 : Int).toNat) = false from Bool.eq_false_iff.mpr c, Bool.false_and]
      rw [e] at q
      exact q
  | _ => exact iteF q
section
variable {P : Program} {w : World} {K : PySem.W.Frag} {mg : Str → Option Value} {base : Heap} {fI fC fN fA fW fD : Addr} {dI dC dN dA dW dD : FuncData} {tk : Tok}
theorem ok_right {f : Addr} {fd : FuncData} (F : Fun K "_law_right" "_law_right" sRight f fd) (W : Words K mg fI fC dI dC) (N : NamesD K mg fN fA fW fD dN dA dW dD tk) (T : Free mg) : FnG P w K mg base CX0 4 f fd ["value"] spRight := by
  have GI : FnOk P w K mg base CX0 1 fI dI ["value"] spInt := ok_integer W.FI T
  have GC : FnOk P w K mg base CX0 2 fC dC ["value"] spCount := ok_count W T
  have GN : FnOk P w K mg base CX0 1 fN dN ["value"] spName := ok_name N.FN T N.gm
  have GA : FnOk P w K mg base CX0 2 fA dA ["value"] spNames := ok_names N.FA T N.gm N.FN N.bN N.gN
  have GW : FnOk P w K mg base CX0 1 fW dW ["value"] spWhole := ok_whole N.FW T
  have GD : FnOk P w K mg base CX0 1 fD dD ["value"] spNamed := ok_named N.FD T
  refine FnG.ok F scRight (fun vs H Q E h => ?_) (fun cdv A outer s H vs Q E hr gd h => ?_)
  · obtain ⟨v, rfl, _⟩ := h
    rfl
  · obtain ⟨v, rfl, hv, q⟩ := h
    have r1 : Room 1 _ := hr.mono (by decide)
    have r2 : Room 2 _ := hr.mono (by decide)
    have hu := hr.units
    refine ⟨_, pss_cons (ps_par (i := 1) (j := 2) (by rfl) scRight.nd rfl rfl (by decide) rfl rfl (pa_cons pe_bl (pa_cons (pe_callB (call_repr gd hu) (by rfl) T.repr (by decide +kernel) (pa_cons (pv 0) pa_nil)) pa_nil)) (by rfl)) (pss_cons (ps_imp (ps_if (pt_val (pe_callB call_isi (by rfl) T.isi (by decide +kernel) (pa_cons (pv 0) (pa_cons (pe_bltn (v := .ty "tuple") (by rfl) T.tuple (by decide +kernel) rfl) pa_nil)))) (pss_one (ps_set (i := 1) scRight.nd rfl (.inl rfl) (pe_cmpR (op_eqE hu) (pe_lc (own := [("word", 7)]) (g := gName 7) (by rfl) scRight.nd (pi_tup (pv 0)) (blkOk_by (own := [("word", 7)]) (N := ["value", "names", "text", "count", "due", "turn", "told", "word"]) (sc := defScope sRight) (by decide +kernel)) (fun _ _ _ _ _ => pg_name (i := 7) scRight.nd rfl (Or.inl rfl)) (fun _ _ _ _ _ => pts_one (pt_not (pt_val (pe_call GD r1 (by rfl) N.gD N.FD.kp N.bD .nil pass0 (pa_cons (pv 7) pa_nil))))) (fun _ _ _ _ _ => pv 7)) (pe_lst pa_nil) (nomark _)))) pss_nil) names_imp) (pss_cons (ps_set (i := 3) scRight.nd rfl (.inl rfl) (pe_imp (pe_and (pe_call GW r1 (by rfl) N.gW N.FW.kp N.bW .nil pass0 (pa_cons (pv 0) pa_nil)) (pe_one (pe_cmpR op_ge (pv 0) pe_int (nomark _)))) cnt_imp)) (pss_cons (ps_set (i := 4) scRight.nd rfl (.inl rfl) (pe_lst (pa_cons (pe_call GW r1 (by rfl) N.gW N.FW.kp N.bW .nil pass0 (pa_cons (pv 0) pa_nil)) (pa_cons (pv 3) (pa_cons (pe_call GD r1 (by rfl) N.gD N.FD.kp N.bD .nil pass0 (pa_cons (pv 0) pa_nil)) (pa_cons (pv 1) pa_nil)))))) (pss_cons (ps_for PassesOwn.never rfl (pi_range1 rfl T.range (pa_cons pe_int pa_nil)) (pg_name (i := 5) scRight.nd rfl (.inl rfl)) (pss_cons (ps_set (i := 6) scRight.nd rfl (.inl rfl) (pe_lst (pa_cons (pe_call GI r1 (by rfl) W.gI W.FI.kp W.bI .nil pass0 (pa_cons (pv 0) pa_nil)) (pa_cons (pe_call GC r2 (by rfl) W.gC W.FC.kp W.bC .nil pass0 (pa_cons (pv 0) pa_nil)) (pa_cons (pe_call GN r1 (by rfl) N.gN N.FN.kp N.bN .nil pass0 (pa_cons (pv 0) pa_nil)) (pa_cons (pe_call GA r2 (by rfl) N.gA N.FA.kp N.bA .nil pass0 (pa_cons (pv 0) pa_nil)) pa_nil)))))) (pss_one (ps_if (PW.pt (pw_or (pt_cmpR op_ne (pe_callB (call_repr gd hu) (by rfl) T.repr (by decide +kernel) (pa_cons (pv 6) pa_nil)) (pe_callB (call_repr gd hu) (by rfl) T.repr (by decide +kernel) (pa_cons (pv 4) pa_nil)) (nomark _)) (pw_or1 (pt_cmpR op_ne (pe_callB (call_repr gd hu) (by rfl) T.repr (by decide +kernel) (pa_cons (pv 0) pa_nil)) (pv 2) (nomark _))))) (pss_one (ps_ret pe_bl)) pss_nil)))) (pss_one (ps_ret pe_bl)))))), ?_⟩
    obtain ⟨tx, sh, txl⟩ := hv.sm
    obtain ⟨ty, kd⟩ := hv.kd
    have txs : tx.length ≤ sizeLine := by
      rw [sizeLine_eq]
      omega
    -- names, text = False, repr(value)
    refine ⟨_, rfl, v, 4, tx, rfl, sh, by decide, txs, _, _, rfl, ?_⟩
    refine ⟨v, ty, some (.str tx), rfl, kd, hv.its, fun H1 s1 => ?_⟩
    have kd1 := kd.same s1
    have eN : ∀ {G : Hp}, Same H G → namesB G v = namesB H v := fun s => namesB_same kd s
    -- count, due
    refine ⟨v, ty, rfl, kd1, hv.small, ?_⟩
    refine ⟨_, rfl, v, ty, rfl, kd1, hv.small, _, rfl, _, rfl, v, ty, rfl, kd1, hv.str, fun H2 s2 => ⟨_, rfl, by show 4 ≤ sizeLine; decide, fun p np => ?_⟩⟩
    refine ⟨2, rfl, by decide, by decide, for_range (lo := 0) (n := (2 : Int).toNat) (fun i σ H' => ∃ v5 v6 : Option V, σ = [some v, some (.bl (namesB H v)), some (.str tx), some (.bl (isCount v)), some (.ref p), v5, v6, none] ∧
        H' p = some (.lst [.bl (isInt v), .bl (isCount v), .bl (nameB v), .bl (namesB H v)]) ∧ Same H H')
      ⟨none, none, rfl, upd_same, (s1.trans s2).trans (Same.new np)⟩ ?_ ?_⟩
    · rintro i σ H3 hi ⟨v5, v6, rfl, hp, s3⟩
      have kd3 := kd.same s3
      refine ⟨_, rfl, v, ty, rfl, kd3, _, rfl, v, ty, rfl, kd3, _, rfl, v, ty, rfl, kd3, hv.str, _, rfl, v, ty, rfl, kd3, (hv.same s3).its, fun H4 s4 => ⟨by show 4 ≤ sizeLine; decide, fun p2 np2 => ?_⟩⟩
      rw [eN s3]
      refine ⟨_, rfl, .ref p2, 1, _, rfl, four_sh upd_same, by decide, four_len _ _ _ _, _, rfl, .ref p, 1, _, rfl, four_sh ((Same.new np2) _ _ (s4 _ _ hp)), by decide, four_len _ _ _ _, rfl, _, rfl, iteNS rfl ?_⟩
      have s5 := (s3.trans s4).trans (Same.new np2 (o := .lst [.bl (isInt v), .bl (isCount v), .bl (nameB v), .bl (namesB H v)]))
      refine ⟨_, rfl, v, 4, tx, rfl, Sh.keep s5 4 v tx sh, by decide, txs, _, rfl, rfl, _, rfl, iteNS rfl ?_⟩
      exact ⟨_, _, rfl, (Same.new np2) _ _ (s4 _ _ hp), s5⟩
    · rintro σ H3 ⟨v5, v6, rfl, hp, s3⟩
      exact q H3 s3
end
end Pr

namespace Pr
open PySem PySem.Spec PyProof.Rows L2 Gd
def spLaw (K : PySem.W.Frag) : Sp := fun vs H Q _ => ∃ (a : Addr) (ns : List Int), vs = [.ref a] ∧ SqL K H a (ns.map V.int) ∧ ns.length ≤ 63 ∧ ∀ H', Q (.bl true) H'
theorem scLaw : FnScope ["script", "spot", "dice", "turn", "words", "value", "some", "again"] ["script"] (defScope sLaw) := ⟨rfl, rfl, rfl, by decide +kernel, rfl, by decide +kernel, by decide +kernel⟩
/-- the law's own defs -/
structure Own (K : PySem.W.Frag) (mg : Str → Option Value) (fD fO fW fN fR : Addr) (dD dO dW dN dR : FuncData) : Prop where
  FD : Fun K "_law_dice" "_law_dice" sDice fD dD
  bD : Binds K dD ["script", "spot"] []
  gD : mg "_law_dice" = some (.ref fD)
  FO : Fun K "_law_odd_values" "_law_odd_values" sOdd fO dO
  bO : Binds K dO ["dice"] []
  gO : mg "_law_odd_values" = some (.ref fO)
  FW : Fun K "_law_near_word" "_law_near_word" sNearW fW dW
  bW : Binds K dW ["dice"] []
  gW : mg "_law_near_word" = some (.ref fW)
  FN : Fun K "_law_near_number" "_law_near_number" sNearN fN dN
  bN : Binds K dN ["dice"] []
  gN : mg "_law_near_number" = some (.ref fN)
  FR : Fun K "_law_right" "_law_right" sRight fR dR
  bR : Binds K dR ["value"] []
  gR : mg "_law_right" = some (.ref fR)
/-- how many cells are asked -/
def spots (n : Int) : Int := if (if n < 4 then n else 4) > 1 then (if n < 4 then n else 4) else 1
theorem spots_le (n : Int) : 1 ≤ spots n ∧ spots n ≤ 4 := by
  unfold spots
  split <;> split <;> omega
theorem hm_all {d : Addr} {H : Hp} : Same (Hm d H) H := fun b o h => (Hm.some_of h).1
theorem nw_hm {d : Addr} {H H' : Hp} {u : HO} (h : H d = some u) : Same (Nw H H') (Hm d H') := fun b o e => by
  obtain ⟨e1, e2⟩ := Nw.some_of e
  exact Hm.of e2 fun x => by
    rw [x, h] at e1
    cases e1
/-- words + words -/
abbrev t_ww (K : PySem.W.Frag) : TE := tOp (rCatA K) (tVar 4) (tVar 4)
def t_wwB : TE := fun σ H Q => ∃ a xs, σ[4]? = some (some (.ref a)) ∧ H a = some (.tup xs) ∧ xs.length ≤ 1000 ∧ ∀ p H', Same H H' → H' p = some (.tup (xs ++ xs)) → Q (.ref p) H'
theorem ww_imp {K : PySem.W.Frag} : ∀ σ H Q, t_wwB σ H Q → t_ww K σ H Q := by
  rintro σ H Q ⟨a, xs, hv, e, l, q⟩
  refine ⟨_, hv, _, hv, a, a, xs, xs, rfl, rfl, SqT.of e, SqT.of e, by rw [sizeLine_eq]; omega, fun x => ?_, fun x y => absurd y x, fun _ _ p np => q p _ (Same.new np) upd_same⟩
  subst x
  exact q a H (Same.refl H) e
section
variable {P : Program} {w : World} {K : PySem.W.Frag} {mg : Str → Option Value} {base : Heap} {fR fP fM : Addr} {dR dP dM : FuncData} {fI fC fN fA fW fD : Addr} {dI dC dN dA dW dD : FuncData} {tk tk2 : Tok} {gD gO gW gN gR : Addr} {eD eO eW eN eR : FuncData}
theorem ok_law {f : Addr} {fd : FuncData} (F : Fun K "law" "law" sLaw f fd) (T : Free mg) (D : Draws K mg fR fP fM dR dP dM) (W : Words K mg fI fC dI dC) (N : NamesD K mg fN fA fW fD dN dA dW dD tk) (O : Own K mg gD gO gW gN gR eD eO eW eN eR)
    (gm2 : mg "MAX_FIGURES" = some (.int 60 tk2)) : FnG P w K mg base CX0 5 f fd ["script"] (spLaw K) := by
  have gm1 := N.gm
  have GD : FnOk P w K mg base CX0 1 gD eD ["script", "spot"] (spDice K) := ok_dice O.FD T
  have GR : FnOk P w K mg base CX0 1 fR dR ["dice", "total"] spRoll := ok_roll D.FR T
  have GO : FnOk P w K mg base CX0 3 gO eO ["dice"] spOdd := ok_odd O.FO D T
  have GW : FnOk P w K mg base CX0 3 gW eW ["dice"] spNear := ok_nearW O.FW D T
  have GN : FnOk P w K mg base CX0 3 gN eN ["dice"] spNear := ok_nearN O.FN D T
  have GI : FnG P w K mg base CX0 4 gR eR ["value"] spRight := ok_right O.FR W N T
  refine FnG.ok F scLaw (fun vs H Q E h => ?_) (fun cdv A outer s H vs Q E hr gd h => ?_)
  · obtain ⟨a, ns, rfl, _⟩ := h
    rfl
  · obtain ⟨a, ns, rfl, hS, hlen, q⟩ := h
    have r1 : Room 1 _ := hr.mono (by decide)
    have r3 : Room 3 _ := hr.mono (by decide)
    have hu := hr.units
    refine ⟨_, pss_cons (ps_for PassesOwn.never rfl (pi_range1 rfl T.range (pa_cons (pe_callB (call_max2 rfl) (by rfl) T.max (by decide +kernel) (pa_cons pe_int (pa_cons (pe_callB (call_min2 rfl) (by rfl) T.min (by decide +kernel) (pa_cons pe_int (pa_cons (pe_callB call_len_seq (by rfl) T.len PySem.boot_len (pa_cons (pv 0) pa_nil)) pa_nil))) pa_nil))) pa_nil)) (pg_name (i := 1) scLaw.nd rfl (.inl rfl)) (pss_cons (ps_set (i := 2) scLaw.nd rfl (.inr rfl) (pe_call GD r1 (by rfl) O.gD O.FD.kp O.bD .nil pass0 (pa_cons (pv 0) (pa_cons (pv 1) pa_nil)))) (pss_cons (ps_for PassesOwn.never rfl (pi_range1 rfl T.range (pa_cons pe_int pa_nil)) (pg_name (i := 3) scLaw.nd rfl (.inl rfl)) (pss_cons (ps_set (i := 4) scLaw.nd rfl (.inl rfl) (pe_callTy call_tuple_of (by rfl) T.tuple (by decide +kernel) (pa_cons (pe_lc (own := [("again", 7)]) (g := gName 7) (by rfl) scLaw.nd (pi_range1 rfl T.range (pa_cons (pe_call GR r1 (by rfl) D.gR D.FR.kp D.bR .nil pass0 (pa_cons (pv 2) (pa_cons pe_int pa_nil))) pa_nil)) (blkOk_by (own := [("again", 7)]) (N := ["script", "spot", "dice", "turn", "words", "value", "some", "again"]) (sc := defScope sLaw) (by decide +kernel)) (fun _ _ _ _ _ => pg_name (i := 7) scLaw.nd rfl (Or.inl rfl)) (fun _ _ _ _ _ => pts_nil) (fun _ _ _ _ _ => pe_call GW r3 (by rfl) O.gW O.FW.kp O.bW .nil pass0 (pa_cons (pv 2) pa_nil))) pa_nil))) (pss_one (ps_for PassesOwn.never rfl (pi_list (pe_lst (pa_cons (pe_call GW r3 (by rfl) O.gW O.FW.kp O.bW .nil pass0 (pa_cons (pv 2) pa_nil)) (pa_cons (pe_call GN r3 (by rfl) O.gN O.FN.kp O.bN .nil pass0 (pa_cons (pv 2) pa_nil)) (pa_cons (pv 4) (pa_cons (pe_callTy call_list_of (by rfl) T.list (by decide +kernel) (pa_cons (pv 4) pa_nil)) (pa_cons (pe_imp (pe_op op_catA (pv 4) (pv 4)) ww_imp) pa_nil))))))) (pg_name (i := 5) scLaw.nd rfl (.inl rfl)) (pss_one (ps_if (pt_not (pt_val (pe_callG GI hr gd (by rfl) O.gR O.FR.kp O.bR pass0 (pa_cons (pv 5) pa_nil)))) (pss_one (ps_ret pe_bl)) pss_nil)))))) (pss_one (ps_for PassesOwn.never rfl (pi_list (pe_call GO r3 (by rfl) O.gO O.FO.kp O.bO .nil pass0 (pa_cons (pv 2) pa_nil))) (pg_name (i := 5) scLaw.nd rfl (.inl rfl)) (pss_one (ps_if (pt_not (pt_val (pe_callG GI hr gd (by rfl) O.gR O.FR.kp O.bR pass0 (pa_cons (pv 5) pa_nil)))) (pss_one (ps_ret pe_bl)) pss_nil))))))) (pss_cons (ps_set (i := 6) scLaw.nd rfl (.inl rfl) (pe_lst (pa_cons pe_str (pa_cons pe_str (pa_cons pe_str (pa_cons (pe_op op_repS pe_str pe_int) (pa_cons (pe_op op_repT (pe_tup (pa_cons pe_str pa_nil)) pe_int) (pa_cons (pe_tup (pa_cons pe_str (pa_cons pe_str (pa_cons pe_int pa_nil)))) (pa_cons (pe_op op_sub (pe_op op_pow pe_int pe_int) pe_int) (pa_cons (pe_op op_add (pe_op op_sub pe_int (pe_op op_pow pe_int pe_int)) pe_int) pa_nil)))))))))) (pss_cons (ps_for PassesOwn.never rfl (pi_list (pv 6)) (pg_name (i := 5) scLaw.nd rfl (.inl rfl)) (pss_one (ps_if (pt_not (pt_val (pe_callG GI hr gd (by rfl) O.gR O.FR.kp O.bR pass0 (pa_cons (pv 5) pa_nil)))) (pss_one (ps_ret pe_bl)) pss_nil))) (pss_one (ps_ret (pe_cmpR (op_eqD hu) (pe_tup (pa_cons (pe_glob (v := .int 8) (by rfl) gm1 ⟨_, rfl⟩) (pa_cons (pe_glob (v := .int 60) (by rfl) gm2 ⟨_, rfl⟩) pa_nil))) (pe_tup (pa_cons pe_int (pa_cons pe_int pa_nil))) (nomark _)))))), ?_⟩
    have sl := spots_le (ns.map V.int).length
    refine ⟨_, rfl, a, _, rfl, .inl hS, _, _, rfl, _, _, rfl, _, rfl, by show -(2 ^ 62) ≤ spots _; omega, by show spots _ < 2 ^ 62; omega, ?_⟩
    refine for_range (lo := 0) (n := (spots (ns.map V.int).length).toNat) (fun i σ H' => ∃ v1 v2 v3 v4 v5 : Option V, σ = [some (.ref a), v1, v2, v3, v4, v5, none, none] ∧ Same H H')
      ⟨none, none, none, none, none, rfl, Same.refl H⟩ ?_ ?_
    · rintro i σ H0 hi ⟨v1, v2, v3, v4, v5, rfl, s0⟩
      refine ⟨_, rfl, _, rfl, a, ns, i, by simp, s0.seq hS, by omega, fun d H1 nd s1 di => ?_⟩
      have nHd : H d = none := s0.free nd
      refine ⟨30, rfl, by decide, by decide, for_range (lo := 0) (n := (30 : Int).toNat) (fun j σ H' => ∃ w3 w4 w5 : Option V, σ = [some (.ref a), some (.int (0 + (i : Int))), some (.ref d), w3, w4, w5, none, none] ∧ Kp d H1 H' ∧ Dice H' d (110 * j))
        ⟨v3, v4, v5, rfl, Kp.refl d H1, di⟩ ?_ ?_⟩
      · rintro j σ H2 hj ⟨w3, w4, w5, rfl, k2, di2⟩
        have hj' : j < 30 := hj
        -- words
        refine ⟨_, rfl, d, 4, _, rfl, di2, by omega, by decide, by decide +kernel, fun r o r0 r1' di3 => ⟨_, rfl, by omega, by omega, fun L nL => ?_⟩⟩
        obtain ⟨ds3, hd3⟩ := di3.there
        have dL : d ≠ L := ne_of_none hd3 nL
        have H2L : H2 L = none := by
          rw [upd_ne dL.symm] at nL
          exact nL
        refine lc_range (lo := 0) (n := r.toNat) (fun m H' => ∃ ys : List V, H' L = some (.lst ys) ∧ ys.length = m ∧ (∀ y ∈ ys, Vd (Hm L (Hm d H')) 1 20000 y) ∧ Kp d H2 H' ∧ Dice H' d (110 * j + 1 + 20 * m))
          ⟨[], upd_same, rfl, fun y m => (nomatch m), Kp.upd.trans (Kp.new nL), di3.same (Same.new nL)⟩ ?_ ?_
        · rintro m H3 hm ⟨ys, eL, ly, vy, k3, di4⟩
          have hm' : m < 3 := by omega
          obtain ⟨ds4, hd4⟩ := di4.there
          refine ⟨rfl, _, rfl, d, _, rfl, di4, by omega, fun v H4 k4 vv di5 => ?_⟩
          have eL4 := k4 L _ dL.symm eL
          refine ⟨ys, eL4, small1000 (by omega), ys ++ [v], upd_same, by simp [ly], fun y my => ?_, fun b u nb e => ?_, ?_⟩
          · rcases List.mem_append.mp my with my | my
            · refine (vy y my).same fun b u e => ?_
              obtain ⟨e1, n1⟩ := Hm.some_of e
              obtain ⟨e2, n2⟩ := Hm.some_of e1
              exact Hm.of (Hm.of (by rw [upd_ne n1]; exact k4 b u n2 e2) n2) n1
            · rw [List.mem_singleton.mp my]
              refine vv.same fun b u e => ?_
              obtain ⟨e1, e2⟩ := Nw.some_of e
              have n2 : b ≠ d := fun x => by
                rw [x, hd4] at e1
                cases e1
              have n1 : b ≠ L := fun x => by
                rw [x, eL] at e1
                cases e1
              exact Hm.of (Hm.of (by rw [upd_ne n1]; exact e2) n2) n1
          · rw [upd_ne (ne_of_none e H2L)]
            exact k4 b u nb (k3 b u nb e)
          · refine (di5.kept fun u e => ?_).more (by omega) (by omega)
            rw [upd_ne dL]
            exact e
        · rintro H3 ⟨ys, eL, ly, vy, k3, di4⟩
          have ly3 : ys.length ≤ 3 := by omega
          obtain ⟨ds4, hd4⟩ := di4.there
          refine ⟨L, ys, rfl, .inl ⟨SqL.of eL, fun t nt => ?_⟩⟩
          have dt : t ≠ d := (ne_of_none hd4 nt).symm
          have hd4b := (Same.new nt (o := .tup ys)) _ _ hd4
          -- the five values
          refine ⟨_, rfl, d, _, rfl, di4.same (Same.new nt), by omega, fun x1 H5 k5 vv1 di5 => ?_⟩
          obtain ⟨ds5, hd5⟩ := di5.there
          refine ⟨_, rfl, d, _, rfl, di5, by omega, fun x2 H6 k6 vv2 di6 => ?_⟩
          have ht : H6 t = some (.tup ys) := k6 _ _ dt (k5 _ _ dt upd_same)
          refine ⟨_, rfl, _, rfl, t, ys, rfl, .inr (SqT.of ht), fun l2 nl2 => ?_⟩
          refine ⟨t, ys, rfl, (Same.new nl2) _ _ ht, by omega, fun p H7 s7 hp => ⟨by show 5 ≤ sizeLine; decide, fun lv nlv => ⟨lv, rfl, ⟨_, SqL.of upd_same⟩, ?_⟩⟩⟩
          obtain ⟨ds6, hd6⟩ := di6.there
          have s8 : Same H6 (upd H7 lv (.lst [x1, x2, .ref t, .ref l2, .ref p])) := ((Same.new nl2).trans s7).trans (Same.new nlv)
          have hd7 := s7 _ _ ((Same.new nl2) _ _ hd6)
          have g8 : Same (Hm d H6) (Hm d (upd H7 lv (.lst [x1, x2, .ref t, .ref l2, .ref p]))) := (Kp.same (d := d) s8).hm
          have vys : ∀ y ∈ ys, Vd (Hm d (upd H7 lv (.lst [x1, x2, .ref t, .ref l2, .ref p]))) 1 20000 y := fun y m =>
            (((((vy y m).same hm_all).same (hm_new nt)).same k5.hm).same k6.hm).same g8
          have pd : p ≠ d := fun x => by
            rw [x, hd7] at hp
            cases hp
          have l2d : l2 ≠ d := (ne_of_none hd6 nl2).symm
          have all : ∀ x ∈ [x1, x2, .ref t, .ref l2, .ref p], Vd (Hm d (upd H7 lv (.lst [x1, x2, .ref t, .ref l2, .ref p]))) 4 400000 x := fun x m => by
            rcases List.mem_cons.mp m with rfl | m
            · exact (((vv1.same (nw_hm hd4b)).same k6.hm).same g8).le (by decide) (by decide)
            rcases List.mem_cons.mp m with rfl | m
            · exact ((vv2.same (nw_hm hd5)).same g8).le (by decide) (by decide)
            rcases List.mem_cons.mp m with rfl | m
            · exact (Vd.tup (n := 1) (m := 20000) (k := 3) (Hm.of (s8 _ _ ht) dt) vys ly3 (by decide)).le (by decide) (by decide)
            rcases List.mem_cons.mp m with rfl | m
            · exact (Vd.lst (n := 1) (m := 20000) (k := 3) (Hm.of ((s7.trans (Same.new nlv)) _ _ upd_same) l2d) vys ly3).le (by decide) (by decide)
            rw [List.mem_singleton.mp m]
            exact (Vd.tup (n := 1) (m := 20000) (k := 6) (Hm.of ((Same.new nlv) _ _ hp) pd) (fun y m => (List.mem_append.mp m).elim (vys y) (vys y)) (by rw [List.length_append]; omega) (by decide)).le (by decide) (by decide)
          refine for_list (K := K) (a := lv) (xs := [x1, x2, .ref t, .ref l2, .ref p]) (fun m σ H' => ∃ w3 w5 : Option V, σ = [some (.ref a), some (.int (0 + (i : Int))), some (.ref d), w3, some (.ref t), w5, none, none] ∧ Same (upd H7 lv (.lst [x1, x2, .ref t, .ref l2, .ref p])) H')
            ⟨_, _, rfl, Same.refl _⟩ (fun m σ H' _ ⟨_, _, _, s⟩ => s.seq (SqL.of upd_same)) ?_ ?_
          · rintro m x σ H8 hx ⟨w3, w5, rfl, s9⟩
            refine ⟨_, rfl, x, rfl, ((all x (List.mem_of_getElem? hx)).same ((Kp.same (d := d) s9).hm)).same hm_all, fun H9 s10 => ⟨_, rfl, iteF ⟨_, _, rfl, s9.trans s10⟩⟩⟩
          · rintro σ H8 ⟨w3, w5, rfl, s9⟩
            refine ⟨_, _, _, rfl, ?_, (di6.same (s8.trans s9)).more (by omega) (by omega)⟩
            exact ((((k2.trans k3).trans (Kp.new nt)).trans k5).trans k6).trans (Kp.same (s8.trans s9))
      · -- the odd values
        rintro σ H2 ⟨w3, w4, w5, rfl, k2, di2⟩
        refine ⟨_, rfl, d, _, rfl, di2, by decide, fun l ys H3 nld nl kp hl _ all di3 => ⟨l, rfl, ⟨_, SqL.of hl⟩, ?_⟩⟩
        refine for_list (K := K) (a := l) (xs := ys) (fun m σ H' => ∃ v1 v2 v3 v4 v5 : Option V, σ = [some (.ref a), v1, v2, v3, v4, v5, none, none] ∧ Same H3 H')
          ⟨_, _, _, _, _, rfl, Same.refl _⟩ (fun m σ H' _ ⟨_, _, _, _, _, _, s⟩ => s.seq (SqL.of hl)) ?_ ?_
        · rintro m x σ H4 hx ⟨u1, u2, u3, u4, u5, rfl, s4⟩
          refine ⟨_, rfl, x, rfl, (((all x (List.mem_of_getElem? hx)).same ((Kp.same (d := d) s4).hm)).same hm_all).le (by decide) (by decide), fun H5 s5 => ⟨_, rfl, iteF ⟨_, _, _, _, _, rfl, s4.trans s5⟩⟩⟩
        · rintro σ H4 ⟨u1, u2, u3, u4, u5, rfl, s4⟩
          exact ⟨_, _, _, _, _, rfl, (Kp.over nHd (s0.trans s1) (k2.trans kp)).trans s4⟩
    · -- the written values
      rintro σ H0 ⟨v1, v2, v3, v4, v5, rfl, _⟩
      refine ⟨_, _, rfl, rfl, by decide, by decide, by decide +kernel, ?_⟩
      refine ⟨by show 1 ≤ sizeLine; decide, fun t1 n1 => ⟨_, _, _, rfl, rfl, SqT.of upd_same, by simp, by decide, by decide, by simp, fun t2 n2 => ?_⟩⟩
      refine ⟨by show 3 ≤ sizeLine; decide, fun t3 n3 => ⟨10, 60, rfl, rfl, c10 (k := 60) (by decide), _, _, rfl, rfl, 10, 60, rfl, rfl, c10 (k := 60) (by decide), _, _, rfl, rfl, _, _, rfl, rfl, by show 8 ≤ sizeLine; decide, fun l nl => ?_⟩⟩
      have L1 : ∀ {G : Hp} (z : Str), SOk 9 z → Vd G 0 102 (.str z) := fun {G} z h => (Vd.text (k := 10) (h.le (by decide)) (by decide))
      refine ⟨_, rfl, l, rfl, ⟨_, SqL.of upd_same⟩, for_list (K := K) (a := l) (xs := [.str "a", .str "abcdefgh", .str "abcdefghi", .str (repS "a" (4000 : Int).toNat), .ref t2, .ref t3, .int (10 ^ (60 : Int).toNat - 1), .int (0 - 10 ^ (60 : Int).toNat + 1)])
        (fun m σ H' => ∃ v1 v2 v3 v4 v5 : Option V, σ = [some (.ref a), v1, v2, v3, v4, v5, some (.ref l), none] ∧ Same (upd _ l _) H')
        ⟨_, _, _, _, _, rfl, Same.refl _⟩ (fun m σ H' _ ⟨_, _, _, _, _, _, s⟩ => s.seq (SqL.of upd_same)) ?_ ?_⟩
      · rintro m x σ H4 hx ⟨u1, u2, u3, u4, u5, rfl, s4⟩
        have vx : Vd H4 4 400000 x := by
          have mx := List.mem_of_getElem? hx
          rcases List.mem_cons.mp mx with rfl | mx
          · exact (L1 _ ⟨by decide, by decide +kernel⟩).le (by decide) (by decide)
          rcases List.mem_cons.mp mx with rfl | mx
          · exact (L1 _ ⟨by decide, by decide +kernel⟩).le (by decide) (by decide)
          rcases List.mem_cons.mp mx with rfl | mx
          · exact (L1 _ ⟨by decide, by decide +kernel⟩).le (by decide) (by decide)
          rcases List.mem_cons.mp mx with rfl | mx
          · exact (Vd.text (k := 4000) (sok_rep ⟨by decide, by decide +kernel⟩) (by decide)).le (by decide) (by decide)
          rcases List.mem_cons.mp mx with rfl | mx
          · refine (Vd.tup (n := 0) (m := 102) (k := 900) (s4 _ _ (((Same.new n3).trans (Same.new nl)) _ _ upd_same)) (fun y m => ?_) (by simp) (by decide)).le (by decide) (by decide)
            obtain ⟨q1, hq1, hy⟩ := List.mem_flatten.mp m
            rw [List.eq_of_mem_replicate hq1] at hy
            rw [List.mem_singleton.mp hy]
            exact L1 _ ⟨by decide, by decide +kernel⟩
          rcases List.mem_cons.mp mx with rfl | mx
          · refine (Vd.tup (n := 0) (m := 2000) (k := 3) (s4 _ _ ((Same.new nl) _ _ upd_same)) (fun y m => ?_) (by decide) (by decide)).le (by decide) (by decide)
            rcases List.mem_cons.mp m with rfl | m
            · exact (L1 _ ⟨by decide, by decide +kernel⟩).le (by decide) (by decide)
            rcases List.mem_cons.mp m with rfl | m
            · exact (L1 _ ⟨by decide, by decide +kernel⟩).le (by decide) (by decide)
            rw [List.mem_singleton.mp m]
            exact Vd.int 1 (by decide +kernel)
          rcases List.mem_cons.mp mx with rfl | mx
          · exact (Vd.int _ (by decide +kernel)).le (by decide) (by decide)
          rw [List.mem_singleton.mp mx]
          exact (Vd.int _ (by decide +kernel)).le (by decide) (by decide)
        refine ⟨_, rfl, x, rfl, vx, fun H5 s5 => ⟨_, rfl, iteF ⟨_, _, _, _, _, rfl, s4.trans s5⟩⟩⟩
      · rintro σ H4 ⟨u1, u2, u3, u4, u5, rfl, s4⟩
        refine ⟨by show 2 ≤ sizeLine; decide, fun p1 np1 => ⟨by show 2 ≤ sizeLine; decide, fun p2 np2 => ?_⟩⟩
        refine ⟨_, _, .tup (SqT.of ((Same.new np2) _ _ upd_same)) (.cons (.int _) (.cons (.int _) .nil)), .tup (SqT.of upd_same) (.cons (.int _) (.cons (.int _) .nil)), rfl, rfl, ?_⟩
        exact q _
end
end Pr

namespace Pr
open PySem PySem.Spec PyProof.Rows L2 Gd
theorem exm_self {K : PySem.W.Frag} {S : Addr} (h1 : PySem.W.subIn K (.ref S) (.type "BaseException") = some true) (h2 : PySem.W.isClsIn K S = true) (h3 : PySem.W.typeIn K (.ref S) = some (.type "type")) (h4 : PySem.W.subIn K (.ref S) (.ref S) = some true) :
    PySem.W.exmOne K (.ref S) (.ref S) = some true := by
  have e1 : (PySem.W.subIn K (.ref S) (.type "BaseException") == some true) = true := by rw [h1] <;> rfl
  have e2 : ((PySem.W.clsIn K S).isSome && PySem.W.typeIn K (.ref S) == some (.type "type")) = true := by
    have h2' : (PySem.W.clsIn K S).isSome = true := h2
    rw [h2', h3] <;> rfl
  show (if (PySem.W.subIn K (.ref S) (.type "BaseException") == some true) = true then (if ((PySem.W.clsIn K S).isSome && PySem.W.typeIn K (.ref S) == some (.type "type")) = true then PySem.W.subIn K (.ref S) (.ref S) else none) else none) = some true
  rw [if_pos e1, if_pos e2]
  exact h4
theorem all_mk {P : Program} {w : World} {K : PySem.W.Frag} {h : Heap} {mg : Str → Option Value} {fa : Addr} (X : K.In h) (G : h.Ns mainGlobals mg) (hfa : mg "law" = some (.ref fa))
    {f1 : Addr} {od1 an1 : Option Addr} {sl1 : Array (Option Value)} {oc1 kV1 dc1 pm1 cd1 ct1 : Value}
    {f2 : Addr} {od2 an2 : Option Addr} {sl2 : Array (Option Value)} {oc2 kV2 dc2 pm2 cd2 ct2 : Value}
    {f3 : Addr} {od3 an3 : Option Addr} {sl3 : Array (Option Value)} {oc3 kV3 dc3 pm3 cd3 ct3 : Value}
    {f4 : Addr} {od4 an4 : Option Addr} {sl4 : Array (Option Value)} {oc4 kV4 dc4 pm4 cd4 ct4 : Value}
    {f5 : Addr} {od5 an5 : Option Addr} {sl5 : Array (Option Value)} {oc5 kV5 dc5 pm5 cd5 ct5 : Value}
    {f6 : Addr} {od6 an6 : Option Addr} {sl6 : Array (Option Value)} {oc6 kV6 dc6 pm6 cd6 ct6 : Value}
    {f7 : Addr} {od7 an7 : Option Addr} {sl7 : Array (Option Value)} {oc7 kV7 dc7 pm7 cd7 ct7 : Value}
    {f8 : Addr} {od8 an8 : Option Addr} {sl8 : Array (Option Value)} {oc8 kV8 dc8 pm8 cd8 ct8 : Value}
    {f9 : Addr} {od9 an9 : Option Addr} {sl9 : Array (Option Value)} {oc9 kV9 dc9 pm9 cd9 ct9 : Value}
    {f10 : Addr} {od10 an10 : Option Addr} {sl10 : Array (Option Value)} {oc10 kV10 dc10 pm10 cd10 ct10 : Value}
    {f11 : Addr} {od11 an11 : Option Addr} {sl11 : Array (Option Value)} {oc11 kV11 dc11 pm11 cd11 ct11 : Value}
    {f12 : Addr} {od12 an12 : Option Addr} {sl12 : Array (Option Value)} {oc12 kV12 dc12 pm12 cd12 ct12 : Value}
    {f13 : Addr} {od13 an13 : Option Addr} {sl13 : Array (Option Value)} {oc13 kV13 dc13 pm13 cd13 ct13 : Value}
    {f14 : Addr} {od14 an14 : Option Addr} {sl14 : Array (Option Value)} {oc14 kV14 dc14 pm14 cd14 ct14 : Value}
    {f15 : Addr} {od15 an15 : Option Addr} {sl15 : Array (Option Value)} {oc15 kV15 dc15 pm15 cd15 ct15 : Value}
    {tk1 tk2 : Tok}
    (a1 : PySem.W.nsIn K mainGlobals "is_integer" = some (some (.ref f1))) (l1 : K.lookup f1 = some ⟨oc1, od1, .func (PySem.W.fnOf "is_integer" "is_integer" (defArgs sInteger) (defBody sInteger) (defScope sInteger) .none kV1 dc1 pm1 an1 cd1 ct1), sl1⟩) (c1 : PySem.W.codeIn K cd1 "is_integer" = true) (k1 : PySem.W.keepIn K (.ref f1) = true)
    (a2 : PySem.W.nsIn K mainGlobals "is_count" = some (some (.ref f2))) (l2 : K.lookup f2 = some ⟨oc2, od2, .func (PySem.W.fnOf "is_count" "is_count" (defArgs sCount) (defBody sCount) (defScope sCount) .none kV2 dc2 pm2 an2 cd2 ct2), sl2⟩) (c2 : PySem.W.codeIn K cd2 "is_count" = true) (k2 : PySem.W.keepIn K (.ref f2) = true)
    (a3 : PySem.W.nsIn K mainGlobals "is_name" = some (some (.ref f3))) (l3 : K.lookup f3 = some ⟨oc3, od3, .func (PySem.W.fnOf "is_name" "is_name" (defArgs sName) (defBody sName) (defScope sName) .none kV3 dc3 pm3 an3 cd3 ct3), sl3⟩) (c3 : PySem.W.codeIn K cd3 "is_name" = true) (k3 : PySem.W.keepIn K (.ref f3) = true)
    (a4 : PySem.W.nsIn K mainGlobals "are_names" = some (some (.ref f4))) (l4 : K.lookup f4 = some ⟨oc4, od4, .func (PySem.W.fnOf "are_names" "are_names" (defArgs sNames) (defBody sNames) (defScope sNames) .none kV4 dc4 pm4 an4 cd4 ct4), sl4⟩) (c4 : PySem.W.codeIn K cd4 "are_names" = true) (k4 : PySem.W.keepIn K (.ref f4) = true)
    (a5 : PySem.W.nsIn K mainGlobals "_law_dice" = some (some (.ref f5))) (l5 : K.lookup f5 = some ⟨oc5, od5, .func (PySem.W.fnOf "_law_dice" "_law_dice" (defArgs sDice) (defBody sDice) (defScope sDice) .none kV5 dc5 pm5 an5 cd5 ct5), sl5⟩) (c5 : PySem.W.codeIn K cd5 "_law_dice" = true) (k5 : PySem.W.keepIn K (.ref f5) = true)
    (a6 : PySem.W.nsIn K mainGlobals "_law_roll" = some (some (.ref f6))) (l6 : K.lookup f6 = some ⟨oc6, od6, .func (PySem.W.fnOf "_law_roll" "_law_roll" (defArgs sRoll) (defBody sRoll) (defScope sRoll) .none kV6 dc6 pm6 an6 cd6 ct6), sl6⟩) (c6 : PySem.W.codeIn K cd6 "_law_roll" = true) (k6 : PySem.W.keepIn K (.ref f6) = true)
    (a7 : PySem.W.nsIn K mainGlobals "_law_pick" = some (some (.ref f7))) (l7 : K.lookup f7 = some ⟨oc7, od7, .func (PySem.W.fnOf "_law_pick" "_law_pick" (defArgs sPick) (defBody sPick) (defScope sPick) .none kV7 dc7 pm7 an7 cd7 ct7), sl7⟩) (c7 : PySem.W.codeIn K cd7 "_law_pick" = true) (k7 : PySem.W.keepIn K (.ref f7) = true)
    (a8 : PySem.W.nsIn K mainGlobals "_law_mixed" = some (some (.ref f8))) (l8 : K.lookup f8 = some ⟨oc8, od8, .func (PySem.W.fnOf "_law_mixed" "_law_mixed" (defArgs sMixed) (defBody sMixed) (defScope sMixed) .none kV8 dc8 pm8 an8 cd8 ct8), sl8⟩) (c8 : PySem.W.codeIn K cd8 "_law_mixed" = true) (k8 : PySem.W.keepIn K (.ref f8) = true)
    (a9 : PySem.W.nsIn K mainGlobals "_law_odd_values" = some (some (.ref f9))) (l9 : K.lookup f9 = some ⟨oc9, od9, .func (PySem.W.fnOf "_law_odd_values" "_law_odd_values" (defArgs sOdd) (defBody sOdd) (defScope sOdd) .none kV9 dc9 pm9 an9 cd9 ct9), sl9⟩) (c9 : PySem.W.codeIn K cd9 "_law_odd_values" = true) (k9 : PySem.W.keepIn K (.ref f9) = true)
    (a10 : PySem.W.nsIn K mainGlobals "_law_is_named" = some (some (.ref f10))) (l10 : K.lookup f10 = some ⟨oc10, od10, .func (PySem.W.fnOf "_law_is_named" "_law_is_named" (defArgs sNamed) (defBody sNamed) (defScope sNamed) .none kV10 dc10 pm10 an10 cd10 ct10), sl10⟩) (c10 : PySem.W.codeIn K cd10 "_law_is_named" = true) (k10 : PySem.W.keepIn K (.ref f10) = true)
    (a11 : PySem.W.nsIn K mainGlobals "_law_whole" = some (some (.ref f11))) (l11 : K.lookup f11 = some ⟨oc11, od11, .func (PySem.W.fnOf "_law_whole" "_law_whole" (defArgs sWhole) (defBody sWhole) (defScope sWhole) .none kV11 dc11 pm11 an11 cd11 ct11), sl11⟩) (c11 : PySem.W.codeIn K cd11 "_law_whole" = true) (k11 : PySem.W.keepIn K (.ref f11) = true)
    (a12 : PySem.W.nsIn K mainGlobals "_law_near_word" = some (some (.ref f12))) (l12 : K.lookup f12 = some ⟨oc12, od12, .func (PySem.W.fnOf "_law_near_word" "_law_near_word" (defArgs sNearW) (defBody sNearW) (defScope sNearW) .none kV12 dc12 pm12 an12 cd12 ct12), sl12⟩) (c12 : PySem.W.codeIn K cd12 "_law_near_word" = true) (k12 : PySem.W.keepIn K (.ref f12) = true)
    (a13 : PySem.W.nsIn K mainGlobals "_law_near_number" = some (some (.ref f13))) (l13 : K.lookup f13 = some ⟨oc13, od13, .func (PySem.W.fnOf "_law_near_number" "_law_near_number" (defArgs sNearN) (defBody sNearN) (defScope sNearN) .none kV13 dc13 pm13 an13 cd13 ct13), sl13⟩) (c13 : PySem.W.codeIn K cd13 "_law_near_number" = true) (k13 : PySem.W.keepIn K (.ref f13) = true)
    (a14 : PySem.W.nsIn K mainGlobals "_law_right" = some (some (.ref f14))) (l14 : K.lookup f14 = some ⟨oc14, od14, .func (PySem.W.fnOf "_law_right" "_law_right" (defArgs sRight) (defBody sRight) (defScope sRight) .none kV14 dc14 pm14 an14 cd14 ct14), sl14⟩) (c14 : PySem.W.codeIn K cd14 "_law_right" = true) (k14 : PySem.W.keepIn K (.ref f14) = true)
    (a15 : PySem.W.nsIn K mainGlobals "law" = some (some (.ref f15))) (l15 : K.lookup f15 = some ⟨oc15, od15, .func (PySem.W.fnOf "law" "law" (defArgs sLaw) (defBody sLaw) (defScope sLaw) .none kV15 dc15 pm15 an15 cd15 ct15), sl15⟩) (c15 : PySem.W.codeIn K cd15 "law" = true) (k15 : PySem.W.keepIn K (.ref f15) = true)
    (z_len : PySem.W.nsIn K mainGlobals "len" = some none)
    (z_int : PySem.W.nsIn K mainGlobals "int" = some none)
    (z_abs : PySem.W.nsIn K mainGlobals "abs" = some none)
    (z_max : PySem.W.nsIn K mainGlobals "max" = some none)
    (z_min : PySem.W.nsIn K mainGlobals "min" = some none)
    (z_list : PySem.W.nsIn K mainGlobals "list" = some none)
    (z_range : PySem.W.nsIn K mainGlobals "range" = some none)
    (z_isinstance : PySem.W.nsIn K mainGlobals "isinstance" = some none)
    (z_bool : PySem.W.nsIn K mainGlobals "bool" = some none)
    (z_tuple : PySem.W.nsIn K mainGlobals "tuple" = some none)
    (z_str : PySem.W.nsIn K mainGlobals "str" = some none)
    (z_repr : PySem.W.nsIn K mainGlobals "repr" = some none)
    (z_all : PySem.W.nsIn K mainGlobals "all" = some none)
    (gm1 : PySem.W.nsIn K mainGlobals "MAX_LETTERS" = some (some (.int 8 tk1)))
    (gm2 : PySem.W.nsIn K mainGlobals "MAX_FIGURES" = some (some (.int 60 tk2))) :
    ∃ fd : FuncData, (∀ (s : Shared) (v : Value), BindsTo s fd ⟨[v], []⟩ [("script", v)]) ∧ ∀ base : Heap, K.In base → base.Ns mainGlobals mg → FnG P w K mg base CX0 5 fa fd ["script"] (spLaw K) := by
  have e := hfa.symm.trans (PySem.W.mg_of X G a15)
  cases e
  have F1 := fun_mk (st := sInteger) l1 c1 k1
  have b1 := F1.binds (ps := ["value"]) fun _ _ _ _ _ _ us hl => match us, hl with | [_], _ => rfl
  have g1 := PySem.W.mg_of X G a1
  have F2 := fun_mk (st := sCount) l2 c2 k2
  have b2 := F2.binds (ps := ["value"]) fun _ _ _ _ _ _ us hl => match us, hl with | [_], _ => rfl
  have g2 := PySem.W.mg_of X G a2
  have F3 := fun_mk (st := sName) l3 c3 k3
  have b3 := F3.binds (ps := ["value"]) fun _ _ _ _ _ _ us hl => match us, hl with | [_], _ => rfl
  have g3 := PySem.W.mg_of X G a3
  have F4 := fun_mk (st := sNames) l4 c4 k4
  have b4 := F4.binds (ps := ["value"]) fun _ _ _ _ _ _ us hl => match us, hl with | [_], _ => rfl
  have g4 := PySem.W.mg_of X G a4
  have F5 := fun_mk (st := sDice) l5 c5 k5
  have b5 := F5.binds (ps := ["script", "spot"]) fun _ _ _ _ _ _ us hl => match us, hl with | [_, _], _ => rfl
  have g5 := PySem.W.mg_of X G a5
  have F6 := fun_mk (st := sRoll) l6 c6 k6
  have b6 := F6.binds (ps := ["dice", "total"]) fun _ _ _ _ _ _ us hl => match us, hl with | [_, _], _ => rfl
  have g6 := PySem.W.mg_of X G a6
  have F7 := fun_mk (st := sPick) l7 c7 k7
  have b7 := F7.binds (ps := ["dice", "items"]) fun _ _ _ _ _ _ us hl => match us, hl with | [_, _], _ => rfl
  have g7 := PySem.W.mg_of X G a7
  have F8 := fun_mk (st := sMixed) l8 c8 k8
  have b8 := F8.binds (ps := ["dice", "items"]) fun _ _ _ _ _ _ us hl => match us, hl with | [_, _], _ => rfl
  have g8 := PySem.W.mg_of X G a8
  have F9 := fun_mk (st := sOdd) l9 c9 k9
  have b9 := F9.binds (ps := ["dice"]) fun _ _ _ _ _ _ us hl => match us, hl with | [_], _ => rfl
  have g9 := PySem.W.mg_of X G a9
  have F10 := fun_mk (st := sNamed) l10 c10 k10
  have b10 := F10.binds (ps := ["value"]) fun _ _ _ _ _ _ us hl => match us, hl with | [_], _ => rfl
  have g10 := PySem.W.mg_of X G a10
  have F11 := fun_mk (st := sWhole) l11 c11 k11
  have b11 := F11.binds (ps := ["value"]) fun _ _ _ _ _ _ us hl => match us, hl with | [_], _ => rfl
  have g11 := PySem.W.mg_of X G a11
  have F12 := fun_mk (st := sNearW) l12 c12 k12
  have b12 := F12.binds (ps := ["dice"]) fun _ _ _ _ _ _ us hl => match us, hl with | [_], _ => rfl
  have g12 := PySem.W.mg_of X G a12
  have F13 := fun_mk (st := sNearN) l13 c13 k13
  have b13 := F13.binds (ps := ["dice"]) fun _ _ _ _ _ _ us hl => match us, hl with | [_], _ => rfl
  have g13 := PySem.W.mg_of X G a13
  have F14 := fun_mk (st := sRight) l14 c14 k14
  have b14 := F14.binds (ps := ["value"]) fun _ _ _ _ _ _ us hl => match us, hl with | [_], _ => rfl
  have g14 := PySem.W.mg_of X G a14
  have F15 := fun_mk (st := sLaw) l15 c15 k15
  have T : Free mg := ⟨PySem.W.mg_none_of X G z_len, PySem.W.mg_none_of X G z_int, PySem.W.mg_none_of X G z_abs, PySem.W.mg_none_of X G z_max, PySem.W.mg_none_of X G z_min, PySem.W.mg_none_of X G z_list, PySem.W.mg_none_of X G z_range, PySem.W.mg_none_of X G z_isinstance, PySem.W.mg_none_of X G z_bool, PySem.W.mg_none_of X G z_tuple, PySem.W.mg_none_of X G z_str, PySem.W.mg_none_of X G z_repr, PySem.W.mg_none_of X G z_all⟩
  exact ⟨PySem.W.fnOf "law" "law" (defArgs sLaw) (defBody sLaw) (defScope sLaw) .none kV15 dc15 pm15 an15 cd15 ct15, fun s v => .of_eq rfl, fun base _ _ => ok_law F15 T ⟨F6, b6, g6, F7, b7, g7, F8, b8, g8⟩ ⟨F1, b1, g1, F2, b2, g2⟩ ⟨PySem.W.mg_of X G gm1, F3, b3, g3, F4, b4, g4, F11, b11, g11, F10, b10, g10⟩ ⟨F5, b5, g5, F9, b9, g9, F12, b12, g12, F13, b13, g13, F14, b14, g14⟩ (PySem.W.mg_of X G gm2)⟩
end Pr
open PySem PySem.W PyProof.Rows
set_option maxHeartbeats 0 in
theorem PySem.Challenge.cw_munchbehind_k01_words_judged_holds : PySem.Challenge.rw_munchbehind_k01_words_judged.Holds := by
  w_on; o_law; k_head; (case hw => w_witness2)
  k_fill
  refine Gd.walk_ofG (l := PySem.Challenge.rw_munchbehind_k01_words_judged) (n := 63) (k := 5) (x := "script") (CX := fun _ => L2.CX0) (sp := fun w => Pr.spLaw _) rfl (by decide) rfl ⟨rfl, by decide, by decide⟩ (fun w h Y => PySem.W.kIn_of Y) ?F (fun _ _ a ns hl _ hS => ⟨a, ns, rfl, hS, hl, fun _ => rfl⟩) (fun _ _ _ _ _ h => h)
  case F =>
    intro w mg fa h KX G hmg
    refine' Pr.all_mk KX G hmg ?a1 ?l1 ?c1 ?k1 ?a2 ?l2 ?c2 ?k2 ?a3 ?l3 ?c3 ?k3 ?a4 ?l4 ?c4 ?k4 ?a5 ?l5 ?c5 ?k5 ?a6 ?l6 ?c6 ?k6 ?a7 ?l7 ?c7 ?k7 ?a8 ?l8 ?c8 ?k8 ?a9 ?l9 ?c9 ?k9 ?a10 ?l10 ?c10 ?k10 ?a11 ?l11 ?c11 ?k11 ?a12 ?l12 ?c12 ?k12 ?a13 ?l13 ?c13 ?k13 ?a14 ?l14 ?c14 ?k14 ?a15 ?l15 ?c15 ?k15 ?z_len ?z_int ?z_abs ?z_max ?z_min ?z_list ?z_range ?z_isinstance ?z_bool ?z_tuple ?z_str ?z_repr ?z_all ?gm1 ?gm2
    (case a1 => k_is)
    (case l1 => k_is)
    (case c1 => k_is)
    (case k1 => k_is)
    (case a2 => k_is)
    (case l2 => k_is)
    (case c2 => k_is)
    (case k2 => k_is)
    (case a3 => k_is)
    (case l3 => k_is)
    (case c3 => k_is)
    (case k3 => k_is)
    (case a4 => k_is)
    (case l4 => k_is)
    (case c4 => k_is)
    (case k4 => k_is)
    (case a5 => k_is)
    (case l5 => k_is)
    (case c5 => k_is)
    (case k5 => k_is)
    (case a6 => k_is)
    (case l6 => k_is)
    (case c6 => k_is)
    (case k6 => k_is)
    (case a7 => k_is)
    (case l7 => k_is)
    (case c7 => k_is)
    (case k7 => k_is)
    (case a8 => k_is)
    (case l8 => k_is)
    (case c8 => k_is)
    (case k8 => k_is)
    (case a9 => k_is)
    (case l9 => k_is)
    (case c9 => k_is)
    (case k9 => k_is)
    (case a10 => k_is)
    (case l10 => k_is)
    (case c10 => k_is)
    (case k10 => k_is)
    (case a11 => k_is)
    (case l11 => k_is)
    (case c11 => k_is)
    (case k11 => k_is)
    (case a12 => k_is)
    (case l12 => k_is)
    (case c12 => k_is)
    (case k12 => k_is)
    (case a13 => k_is)
    (case l13 => k_is)
    (case c13 => k_is)
    (case k13 => k_is)
    (case a14 => k_is)
    (case l14 => k_is)
    (case c14 => k_is)
    (case k14 => k_is)
    (case a15 => k_is)
    (case l15 => k_is)
    (case c15 => k_is)
    (case k15 => k_is)
    (case z_len => k_is)
    (case z_int => k_is)
    (case z_abs => k_is)
    (case z_max => k_is)
    (case z_min => k_is)
    (case z_list => k_is)
    (case z_range => k_is)
    (case z_isinstance => k_is)
    (case z_bool => k_is)
    (case z_tuple => k_is)
    (case z_str => k_is)
    (case z_repr => k_is)
    (case z_all => k_is)
    (case gm1 => k_is)
    (case gm2 => k_is)

