import PyProof.Rows.All
import Wide.All
import OpenK.AllK
import Wide.FinOn
import HandS.ForMost
import PyProof.ReprRoads
import HandS.FStrTup
import HandS.Strs
import HandS.SetFor
import HandS.Zip
import HandS.ForExc
import HandS.IsInst
import HandS.Evl
import HandS.Conv
import HandS.Flow
import HandS.Style
import HandS.Sort
import HandS.Walk
import HandS.Codes
import HandS.StrMore
import HandS.TupAny
import HandS.Defaults
import KE.KEqSeq
import HandS.WideBits
import HandS.More
import HandS.SlotsOwn
import HandS.OwnEq
import KE.KFmtOwn
import PyProof.SeqInW
import HandS.FStr
import KE.KDictZip
import KE.KItemsList
import HandS.OwnIter
import HandS.ListItems
import PyProof.SetRoads
import HandS.Deep
import PyProof.StrBlock2
import KE.GoesNew
import HandS.RaiseMore
import PySem.Challenge.RW_potround_k21_timetables
set_option Elab.async false
set_option linter.all false
set_option maxRecDepth 100000
namespace Pot
open PySem PySem.Spec PyProof.Rows L2
/-! ### defs that are called where no text of a thing is under way -/
structure FnG (P : Program) (w : World) (K : PySem.W.Frag) (mg : Str → Option Value) (base : Heap) (k : Nat) (f : Addr) (fd : FuncData) (ps : List Str) (sp : Sp) : Prop where
  many : ∀ vs H Q E, sp vs H Q E → vs.length = ps.length
  does : ∀ (A : Around) (outer : List Env) (s : Shared) (H : Hp) (args : Args) (us : List Value) (vs : List V) (Q : VK), A.guards = some [] → Room k A → Env0 P w K mg base A outer s H →
    BindsTo s fd args (ps.zip us) → Vals vs us → sp vs H Q E0 → codeAny (model P w) A (.call (.ref f) args) (CR CX0 outer P w H s Q E0) s
section
variable {P : Program} {w : World} {K : PySem.W.Frag} {mg : Str → Option Value} {base : Heap}
theorem FnG.of {k : Nat} {f : Addr} {fd : FuncData} {ps : List Str} {sp : Sp} (F : FnOk P w K mg base CX0 k f fd ps sp) : FnG P w K mg base k f fd ps sp :=
  ⟨F.len, fun A outer s H args us vs Q _ hr e hb r h => F.run A outer s H args us vs Q E0 hr e hb r h⟩
theorem okG {x qual : Str} {st : Stmt} {f : Addr} {fd : FuncData} {N ps : List Str} {k : Nat} {sp : Sp} (F : Fun K x qual st f fd) (S : FnScope N ps (defScope st)) (many : ∀ vs H Q E, sp vs H Q E → vs.length = ps.length)
    (body : ∀ (cdv : Value) (A : Around) (outer : List Env) (s : Shared) (H : Hp) (vs : List V) (Q : VK), A.guards = some [] → Room k (A.deeper (envOfC qual (defScope st) s.heap.objs.size f cdv)) → sp vs H Q E0 →
      ∃ t, PSs (cxOf CX0 P w K mg base N qual (defScope st) f cdv A outer s H E0).nox (defBody st) t ∧ t { nx := fun _ H' => Q .non H', rt := Q } (start N vs) H) : FnG P w K mg base (k + 1) f fd ps sp := by
  obtain ⟨oc, od, kV, doc, pm, an, cdv, ct, osl, rfl, at_, code⟩ := F.ex
  refine ⟨many, fun A outer s H args us vs Q gd room e0 bind rel want => ?_⟩
  have kin : K.In s.heap := e0.mod.kin.keeps fun b o e => (e0.bs b o e).1
  have nolim : s.heap.NoLimit := e0.mod.nolimit.keeps fun b o e => (e0.bs b o e).1
  refine codeAny_call_function room.depth (kin _ _ at_) rfl S.co S.gen rfl (PySem.W.codeRec_of kin code) (bind _ _ _ _ (wpAny_newFunctionEnv_cells S.kind (fun y hy => ?_) fun env he s1 x => ?_))
  · obtain ⟨n, v⟩ := y
    exact (S.par n (List.of_mem_zip hy).1).imp id fun q => ⟨q, PySem.W.cellsFrom_some _ _ _ (.inl q)⟩
  · subst he
    obtain ⟨t, ht, hq⟩ := body cdv A outer s H vs Q gd (room.deeper _) want
    have I : Inv (cxOf CX0 P w K mg base N qual (defScope st) f cdv A outer s H E0) [] (start N vs) H s1 := inv_start S room.hd e0 (many _ _ _ _ want) rel x
    refine ⟨nolim.keeps x.toInCall.keep, codeAny_func (wpAny_mono (ht.nox.run [] s1 (start N vs) H _ I hq) (fun fl s' hs => ?_) fun _ _ z => z)⟩
    cases fl with
    | ret u =>
      obtain ⟨v, σ', H', J, rv, q⟩ := hs
      exact ⟨v, H', J.os, J.bare, J.base, J.hok, rv, q⟩
    | next =>
      obtain ⟨σ', H', J, q⟩ := hs
      exact ⟨V.non, H', J.os, J.bare, J.base, J.hok, rfl, q⟩
    | brk => obtain ⟨_, _, _, q⟩ := hs; exact q.elim
    | cont => obtain ⟨_, _, _, q⟩ := hs; exact q.elim
/-! calls -/
/-- a def that may be called by its name where no text is under way -/
def ClG (P : Program) (w : World) (K : PySem.W.Frag) (mg : Str → Option Value) (base : Heap) (k : Nat) (x : Str) (ds : List V) (sp : Sp) : Prop :=
  ∃ (f : Addr) (fd : FuncData) (ps : List Str) (dus : List Value), FnG P w K mg base k f fd ps sp ∧ mg x = some (.ref f) ∧ PySem.W.keepIn K (.ref f) = true ∧ Binds K fd ps dus ∧ Vals ds dus
theorem pe_clG {X : Cx} {k j : Nat} {x : Str} {ds : List V} {sp : Sp} {e : Expr} {es : List Expr} {t : TA} {p pos : Pos} (c : ClG X.prog X.w X.K X.mg X.base k x ds sp) (hr : Room j X.A) (gd : X.A.guards = some []) (hk : k ≤ j) (hg : Gl X x) (ha : PA X (e :: es) t)
    (hdb : (x == ("__debug__" : Str)) = false := by decide) (he : starEach (e :: es) X.env = (false, eval e X.env) :: starEach es X.env := by rfl) (hpl : (backTo pos (starEach es X.env)).any (·.1) = false := by rfl) :
    PE X (.Call (.Name x p) (e :: es) [] pos) (tCall sp ds E0 t) := by
  obtain ⟨f, fd, ps, dus, G, named, kept, binds, dv⟩ := c
  refine ⟨fun pins s σ H Q I h => wpAny_Call_Name_kw (ld_glob I hg named (PySem.W.callWith_K (h₀ := X.base) I.ok.mod.kin kept (thn (ha.run pos pins s σ H _ I h) fun us s1 hh => ?_) he hpl) hdb)⟩
  obtain ⟨vs, H1, I1, r, q⟩ := hh
  refine ⟨I1.kIn, ?_⟩
  have rel := r.append dv
  have n : (us ++ dus).length = ps.length := rel.length ▸ G.many _ _ _ _ q
  refine wpAny_call (codeAny_mono (G.does X.A X.stack s1 H1 ⟨us, []⟩ (us ++ dus) (vs ++ ds) Q gd (hr.mono hk) I1.env0 (binds s1 us I1.kIn n) rel q) fun res s' hq => ?_)
  rcases res with _ | fl
  case error => exact (show False from hq).elim
  cases fl <;> first | exact I1.after hq | exact (show False from hq).elim
/-! the law's own call -/
theorem law_callG {mb : Str → Option Value} {k : Nat} {fa a : Addr} {fd : FuncData} {x : Str} {sp : Sp} {s : Shared} {vs : List Value} {ns : List Int} (kin : K.In s.heap) (glob : s.heap.Ns mainGlobals mg) (blt : s.heap.Ns builtinsNs mb)
    (boot : ∀ y : Str, y ≠ "__name__" → mb y = bootBuiltins y) (lim : s.heap.NoLimit) (gens : s.gens = #[]) (obj : s.heap.get? a = some { cls := .type "list", data := .seq vs.toArray }) (whole : IntsAre vs ns) (small : ns.length ≤ sizeLine) (room : Room k callerA)
    (F : ∀ base : Heap, K.In base → base.Ns mainGlobals mg → FnG P w K mg base k fa fd [x] sp) (bind : ∀ (s : Shared) (u : Value), BindsTo s fd ⟨[u], []⟩ [(x, u)])
    (want : ∀ H : Hp, Only H → SqL K H a (ns.map V.int) → sp [.ref a] H (fun v _ => v = .bl true) E0) :
    codeAny (model P w) callerA (.call (.ref fa) ⟨[.ref a], []⟩) (fun r s' => r = .ok (.ret (.bool true)) ∧ OldK s.heap s'.heap ∧ s'.os = s.os ∧ AllBare s'.gens) s := by
  have rv := vals_ints whole
  have nv := whole.length
  -- which heap is told: the script, locked, where it isn't one of the written part
  obtain ⟨H, only, seq, fine, alone, apart⟩ : ∃ H : Hp, Only H ∧ SqL K H a (ns.map V.int) ∧ HOk P w H s.heap ∧ (∀ b u, H b = some u → b = a) ∧ (∀ u, H a = some u → K.lookup a = none) := by
    cases lk : K.lookup a with
    | some o =>
      have same := kin a o lk
      rw [obj] at same
      cases same
      exact ⟨fun _ => none, fun _ => .inl rfl, .inr ⟨_, vs.toArray, _, lk, rfl, rfl, rfl, by rw [List.size_toArray, nv]; exact small, by simpa using rv⟩, (fun b u z => nomatch (show (none : Option HO) = some u from z)), (fun b u z => nomatch (show (none : Option HO) = some u from z)), fun u z => nomatch (show (none : Option HO) = some u from z)⟩
    | none =>
      have hit : ∀ b u, (if b = a then some (HO.frz { cls := .type "list", data := .seq vs.toArray } (.lst (ns.map V.int))) else none) = some u → b = a ∧ u = .frz { cls := .type "list", data := .seq vs.toArray } (.lst (ns.map V.int)) := fun b u z => by
        split at z
        · cases z; exact ⟨‹_›, rfl⟩
        · cases z
      refine ⟨fun b => if b = a then some (.frz { cls := .type "list", data := .seq vs.toArray } (.lst (ns.map V.int))) else none, fun b => ?_, .inl (.inr ⟨_, if_pos rfl⟩), fun b u z => ?_, fun b u z => (hit b u z).1, fun _ _ => rfl⟩
      · by_cases hb : b = a
        · exact .inr ⟨_, _, if_pos hb⟩
        · exact .inl (if_neg hb)
      · obtain ⟨rfl, rfl⟩ := hit b u z
        exact ⟨obj, by rw [List.length_map]; exact small, vs, _, rv, obj⟩
  have hid : ∀ {b : Addr} {o : Obj}, s.heap.get? b = some o → (b = a → H a = none) → (hidT s.heap H).get? b = some o := fun {b o} e n => hidT_get e (by
    cases q : H b with
    | none => rfl
    | some u =>
      have e2 := alone b u q
      subst e2
      rw [n rfl] at q
      cases q)
  have kinB : K.In (hidT s.heap H) := fun b o e => hid (kin b o e) fun z => by
    subst z
    cases q : H b with
    | none => rfl
    | some u => rw [apart u q] at e; cases e
  have ns_ : ∀ {b : Addr} {m : Str → Option Value}, s.heap.Ns b m → (hidT s.heap H).Ns b m := fun {b m} h => by
    obtain ⟨o, es, ep, e, d, r⟩ := h
    refine ⟨o, es, ep, hid e fun z => ?_, d, r⟩
    subst z
    rw [obj] at e
    cases e
    exact nomatch (show Data.seq vs.toArray _ = Data.dict es ep from d)
  have md : Mod K mg (hidT s.heap H) := ⟨kinB, ns_ glob, ⟨mb, ns_ blt, boot⟩, by obtain ⟨mc, h1, h2⟩ := lim; exact ⟨mc, ns_ h1, h2⟩⟩
  have e0 : Env0 P w K mg (hidT s.heap H) callerA [] s H := ⟨rfl, md, fun b o e => of_hidT e, Nat.le_of_eq (hidT_size _ _), trivial, (fun b hb => nomatch (show b ∈ ([] : List Addr) from hb)), fine, .of_eq gens⟩
  refine codeAny_mono ((F _ kinB (ns_ glob)).does callerA [] s H ⟨[.ref a], []⟩ [.ref a] [.ref a] _ rfl room e0 (bind s (.ref a)) (.cons rfl .nil) (want H only seq)) fun res s' h => ?_
  rcases res with _ | fl
  case error => exact (show False from h).elim
  cases fl <;> first | exact (show False from h).elim | skip
  obtain ⟨v, H', os, bare, un, fine', rel, q⟩ := h
  cases (show v = .bl true from q)
  cases (show _ = Value.bool true from rel)
  refine ⟨rfl, OldK.of_keep fun b o e => ?_, os, bare⟩
  cases q : H b with
  | none => exact un.keep b o e q (fun z => nomatch (show b ∈ ([] : List Addr) from z)) (fun z => nomatch z)
  | some u =>
    rcases only b with z | ⟨ob, xs, z⟩
    · rw [q] at z; cases z
    · obtain ⟨e1, _⟩ := fine b _ z
      obtain ⟨e2, _⟩ := fine' b _ (un.frzs b ob _ z)
      rw [e] at e1; cases e1
      exact e2
end
theorem walkG {l : PySem.W.OpenLaw} {n k : Nat} {q : Program} {loose : List Str} {XP : (Str → Option Value) → Heap → Prop} {YP : World → Heap → Prop} {d : DefRec} {K : Params → PySem.W.Frag} {sp : World → Sp} {x : Str}
    (most : l.most = some n) (fits : n ≤ sizeLine) (plain : d.params.defaults = []) (room : Room k callerA) (part : ∀ (w : World) (h : Heap), YP w h → (K w.params).In h)
    (F : ∀ (w : World) (mg : Str → Option Value) (fa : Addr) (h : Heap), (K w.params).In h → h.Ns mainGlobals mg → mg d.name = some (.ref fa) →
      ∃ fd : FuncData, (∀ (s : Shared) (u : Value), BindsTo s fd ⟨[u], []⟩ [(x, u)]) ∧ ∀ base : Heap, (K w.params).In base → base.Ns mainGlobals mg → FnG l.prog w (K w.params) mg base k fa fd [x] (sp w))
    (want : ∀ (w : World) (H : Hp) (a : Addr) (ns : List Int), ns.length ≤ n → Only H → SqL (K w.params) H a (ns.map V.int) → sp w [.ref a] H (fun v _ => v = .bl true) E0) :
    PySem.W.WalkO q loose XP YP l.row.toRowW d [] (fun f vs => PySem.call f vs) := by
  refine Att.attach_call most plain fun w s₀ s₁ mg mb fa o pm cd doc a vs ns G Y _ _ _ named obj whole len gens => ?_
  obtain ⟨fd, bind, hF⟩ := F w mg fa _ (part w _ Y) G.T.g named
  exact law_callG (part w _ Y) G.T.g G.T.b G.T.builtins G.T.nolimit gens obj whole (Nat.le_trans len fits) room hF bind fun H only seq => want w H a ns len only seq
end Pot

namespace Pot
open PySem PySem.Spec PyProof.Rows L2
/-! ### repr of what is made of numbers, texts, truths, None, lists and tuples -/
section
variable {K : PySem.W.Frag}
mutual
theorem dp_noDict {H : Hp} : ∀ {v : V} {d : PyData}, Dp K H v d → d.hasDict = false
  | _, _, .non => rfl
  | _, _, .bl _ => rfl
  | _, _, .int _ => rfl
  | _, _, .str _ => rfl
  | _, _, .lst _ a => dpAll_noDict a
  | _, _, .tup _ a => dpAll_noDict a
theorem dpAll_noDict {H : Hp} : ∀ {vs : List V} {ds : List PyData}, DpAll K H vs ds → PyData.hasDictAll ds = false
  | _, _, .nil => rfl
  | _, _, .cons h t => by
    show (PyData.hasDict _ || PyData.hasDictAll _) = false
    rw [dp_noDict h, dpAll_noDict t]
    rfl
end
/-- how long its text may be, told roughly -/
def costAll : List PyData → Nat
  | [] => 0
  | x :: xs => cost x + 2 + costAll xs
where cost : PyData → Nat
  | .none => 4
  | .bool _ => 5
  | .int _ => 1921
  | .str x => 10 * x.length + 2
  | .list xs => costAll xs + 3
  | .tuple xs => costAll xs + 3
  | .dict _ => 0
/-- what repr is asked of here: its texts of plain signs -/
def fineAll : List PyData → Prop
  | [] => True
  | x :: xs => fine x ∧ fineAll xs
where fine : PyData → Prop
  | .none => True
  | .bool _ => True
  | .int i => i.natAbs.log2 < 1920
  | .str x => ∀ c ∈ x.cps.toList, c < 16 ^ 8
  | .list xs => fineAll xs
  | .tuple xs => fineAll xs
  | .dict _ => False
theorem from_len : ∀ (ts : List Str) (k : Nat) (acc : Str), (textFrom k acc ts).length ≤ acc.length + piled ts
  | [], k, acc => by rw [piled_nil]; exact Nat.le_refl _
  | t :: r, k, acc => by
    have ih := from_len r (k + 1)
    rw [piled_cons]
    unfold textFrom
    refine Nat.le_trans (ih _) ?_
    rw [strLen_append]
    split
    · rw [strLen_append]
      have e : (", " : Str).length = 2 := by decide +kernel
      omega
    · rw [strLen_append]
      have e : ("" : Str).length = 0 := by decide +kernel
      omega
theorem list_len (ts : List Str) : (listText ts).length ≤ piled ts + 2 := by
  unfold listText
  rw [strLen_append]
  have h := from_len ts 0 "["
  have e1 : ("[" : Str).length = 1 := by decide +kernel
  have e2 : ("]" : Str).length = 1 := by decide +kernel
  omega
mutual
theorem shown_len : ∀ d : PyData, fineAll.fine d → d.shown.length ≤ costAll.cost d
  | .none, _ => by decide +kernel
  | .bool b, _ => by cases b <;> decide +kernel
  | .int i, h => PyProof.Rows.int_text_len_1921 h
  | .str x, h => StrLaws.reprText_len x h
  | .list xs, h => Nat.le_trans (list_len _) (Nat.add_le_add (piled_len xs h) (by decide))
  | .tuple xs, h => Nat.le_trans (fmt_text _) (Nat.add_le_add (piled_len xs h) (by decide))
  | .dict _, h => h.elim
theorem piled_len : ∀ ds : List PyData, fineAll ds → piled (PyData.shownAll ds) ≤ costAll ds
  | [], _ => Nat.le_refl _
  | x :: xs, h => by
    have h1 := shown_len x h.1
    have h2 := piled_len xs h.2
    show piled (x.shown :: PyData.shownAll xs) ≤ costAll.cost x + 2 + costAll xs
    rw [piled_cons]
    omega
end
mutual
theorem fine_show : ∀ d : PyData, fineAll.fine d → d.showable = true
  | .none, _ => rfl
  | .bool _, _ => rfl
  | .int i, h => decide_eq_true h
  | .str _, _ => rfl
  | .list xs, h => fineAll_show xs h
  | .tuple xs, h => fineAll_show xs h
  | .dict _, h => h.elim
theorem fineAll_show : ∀ ds : List PyData, fineAll ds → PyData.showableAll ds = true
  | [], _ => rfl
  | x :: xs, h => by
    show (PyData.showable x && PyData.showableAll xs) = true
    rw [fine_show x h.1, fineAll_show xs h.2]
    rfl
end
end
section
variable {X : Cx}
def rRepr (K : PySem.W.Frag) : List V → Hp → VK → Prop := fun xs H Q => ∃ (a : Addr) (d : PyData), xs = [V.ref a] ∧ Dp K H (.ref a) d ∧ fineAll.fine d ∧ d.depth ≤ 60 ∧ costAll.cost d ≤ 16777216 ∧ Q (.str d.shown) H
theorem cr_repr (gd : X.A.guards = some []) (hu : X.A.units + 64 < cLine) : CallR X (.builtin "repr") (rRepr X.K) := by
  intro pins s σ H vs us Q I r h
  obtain ⟨a, d, rfl, dp, sh, dep, sz, q⟩ := h
  rw [Vals.ref1 r]
  obtain ⟨as, rd⟩ := Dp.reads I d (.ref a) (.ref a) dp rfl
  refine repr_of_reads' rd (fine_show d sh) (fun z => ?_) gd (by omega) (fun _ _ e => e) (fun h' u tk k => ⟨.str d.shown, H, I.kept k, ⟨u, rfl⟩, q⟩) (Nat.le_trans (shown_len d sh) (by rw [sizeLine_eq]; exact sz))
  rw [dp_noDict dp] at z
  cases z
end
end Pot

namespace Pot
open PySem PySem.Spec PyProof.Rows L2 PySem.W PySem.Calls
/-! ### set(xs) of a list of ints -/
/-- the object that set() makes first -/
abbrev emptySet (w : World) : Obj := { cls := .type "set", dict := none, data := .set #[] 0 (.fresh 0 0 (!w.params.followText "set-order")) }
section
variable {P : Program} {w : World} {A : Around} {E : Value → Shared → Prop} {s : Shared}
/-- what is wanted behind the filling -/
def Filled (w : World) (s : Shared) (ns : List Int) (s' : Shared) : Prop := ∃ h' tk c, s' = { s with heap := h', toks := tk } ∧ SetR w h' s.heap.objs.size (fun j => decide (j ∈ ns)) c ∧ c ≤ ns.length ∧ ∀ b o, s.heap.get? b = some o → h'.get? b = some o
set_option maxHeartbeats 4000000 in
theorem call_set_li {l : Addr} {items : Array Value} (ns : List Int) {Q : Value → Shared → Prop} (hh : A.handled = none) (hl : s.heap.IsList l items) (hit : IntsAre items.toList ns) (hb : ns.length + 1 < scanBound)
    (hq : ∀ s', Filled w s ns s' → Q (.ref s.heap.objs.size) s') : wpAny (model P w) A (call (.type "set") [.ref l]) Q E s := by
  have size : items.size = ns.length := by
    rw [← Array.length_toList]; exact IntsAre.length hit
  have made := F.called_set.made
  have below := F.called_set.sub
  obtain ⟨_, _, chain⟩ := F.called_set.mro
  have nt := F.called_set.notType
  have cc := F.called_set.canCreate
  have ck := F.typeCall_set_1 (.ref l)
  refine wpAny_call (codeAny_of_tree (show wpAny _ _ (callAny (.type "set") _) _ _ _ from wpAny_pure ⟨Code.quiet_builtin _ (by decide +kernel), codeAny_builtin F.entry_type_call ?_⟩))
  rw [Around.under_plain (weight_type_call_type "set" [.ref l] []) rfl]
  repeat (any_goals (first | assumption | wp_step))
  refine codeAny_mono (code_set_led1 (.ref l) (E := E) (Q₁ := fun obj z => obj = .ref s.heap.objs.size ∧ z = { s with heap := s.heap.push (emptySet w) }) ⟨rfl, rfl⟩) fun r z hr => ?_
  rcases r with _ | fl
  case error => exact hr
  cases fl <;> first | exact hr.elim | skip
  obtain ⟨rfl, rfl⟩ := hr
  have at0 : (s.heap.push (emptySet w)).get? s.heap.objs.size = some (emptySet w) := Heap.get?_push_size _ rfl
  have ty0 : Shared.TypeIs { s with heap := s.heap.push (emptySet w) } (.ref s.heap.objs.size) "set" := ⟨_, at0, rfl⟩
  have li := F.called_set.init.lookup
  have bi := F.called_set.init.bind (.ref s.heap.objs.size)
  repeat (any_goals (first | assumption | wp_step))
  refine codeAny_mono (codeAny_call_builtin (R := wants (fun r z => r = .none ∧ Filled w s ns z) E) F.called_set.init.plain F.entry_set_init (check_set_init_1 ty0 ?_)) fun r z hz => ?_
  · obtain ⟨⟨_, od, _, os⟩, hol, hcl, nl, hdl⟩ := hl
    simp only at hcl hdl
    subst hcl
    subst hdl
    have keep : (s.heap.push (emptySet w)).get? l = some { cls := .type "list", dict := od, data := .seq items nl, slots := os } := Heap.get?_push_of_some _ hol
    have s1 := F.sub_list_set
    have s2 := F.sub_list_frozenset
    have s3 : (Value.type "list" == Value.type "dict") = false := by decide
    have isl : (s.heap.push (emptySet w)).IsList l items := ⟨_, keep, rfl, nl, rfl⟩
    unfold Builtin.«set.__init__» noKeywords Builtin.Frozenset.updateFrom
    generalize hPI : pyIter = PI
    wp_walk
    subst hPI
    refine wpAny_pyIter_list isl (wpAny_bind (wpAny_runValue ?_))
    have lt : l < s.heap.objs.size := Heap.lt_size hol
    have sz : (s.heap.push (emptySet w)).objs.size = s.heap.objs.size + 1 := Heap.size_push ..
    have ne1 : l ≠ (s.heap.push (emptySet w)).objs.size := by rw [sz]; exact Nat.ne_of_lt (Nat.lt_succ_of_lt lt)
    have ne2 : s.heap.objs.size ∉ [(s.heap.push (emptySet w)).objs.size, l] := by
      rw [sz]
      intro z
      rcases List.mem_cons.mp z with z | z
      · exact absurd z (Nat.ne_of_lt (Nat.lt_succ_self _))
      · exact absurd (List.mem_singleton.mp z) (Nat.ne_of_gt lt)
    have each : ∀ (i : Nat) (v : Value), items[i]? = some v → ∃ k t, ns[i]? = some k ∧ v = .int k t := fun i v hv => by
      have hi : i < ns.length := size ▸ (Array.getElem?_eq_some_iff.mp hv).1
      obtain ⟨t, e⟩ := IntsAre.int_at hit i v (by rw [Array.getElem?_toList]; exact hv)
      exact ⟨ns[i], t, List.getElem?_eq_getElem hi, by rw [e, List.getD_eq_getElem?_getD, List.getElem?_eq_getElem hi]; rfl⟩
    refine set_update_ints ((Walks.list (show A.in1.in1.in1.handled = none by simp [hh]) _ l ne1 items).toS) s.heap.objs.size ne2 ns size hb each (items.size - 0) 0 _ (by omega) (Nat.zero_le _) ⟨⟨_, Heap.get?_push_size _ rfl, rfl, rfl⟩, isl.push _⟩ ⟨0, Nat.le_refl 0, setR_new_at (Heap.get?_push_of_some _ at0)⟩ fun s' c hm hc hS => ?_
    obtain ⟨h', g, d, tk, o⟩ := s'
    cases (show g = s.gens from hm.gens)
    cases (show d = s.drawn from hm.drawn)
    cases (show o = s.os from hm.os)
    refine (show wpAny _ _ _ _ _ _ from wpAny_pure (show wpAny _ _ (ret Value.none) _ _ _ from wpAny_pure ⟨rfl, h', tk, c, rfl, hS, size ▸ hc, fun b o e => ?_⟩))
    have hb0 : b < s.heap.objs.size := Heap.lt_size e
    refine hm.heap b o (fun z => ?_) (Heap.get?_push_of_some _ (Heap.get?_push_of_some _ e))
    rcases List.mem_cons.mp z with z | z
    · exact absurd z (Nat.ne_of_lt hb0)
    · exact absurd ((List.mem_singleton.mp z).trans sz) (Nat.ne_of_lt (Nat.lt_succ_of_lt hb0))
  · rcases r with _ | fl
    case error => exact hz
    cases fl <;> first | exact hz.elim | skip
    obtain ⟨rfl, f⟩ := hz
    obtain ⟨h', tk, c, rfl, hS, hc, k⟩ := id f
    repeat (any_goals (first | assumption | wp_step))
    exact hq _ ⟨_, _, _, rfl, hS, hc, k⟩
end
section
variable {X : Cx}
/-- set(xs), at most 60 ints: a set of just these -/
def rSetLi (K : PySem.W.Frag) (w : World) : List V → Hp → VK → Prop := fun xs H Q => ∃ (a : Addr) (ns : List Int), xs = [V.ref a] ∧ SqL K H a (ns.map V.int) ∧ ns.length ≤ 1000 ∧
  ∀ (p : Addr) (c : Nat), H p = none → c ≤ ns.length → Q (.ref p) (upd H p (SetO w p (fun k => decide (k ∈ ns)) c))
theorem cr_setLi (hc : X.calm = true) : CallR X (.type "set") (rSetLi X.K X.w) := by
  intro pins s σ H vs us Q I r h
  obtain ⟨a, ns, rfl, hS, hl, q⟩ := h
  rw [Vals.ref1 r]
  obtain ⟨its, rv, pl, hz⟩ := I.list hS
  refine call_set_li ns (I.ok.hd hc) pl.isList (by simpa using Vals.ints rv) (by unfold scanBound; omega) fun s' f => ?_
  obtain ⟨h', tk, c, rfl, R, hcn, k⟩ := f
  have hn : H s.heap.objs.size = none := I.hok.fresh (Nat.le_refl _)
  have J : Inv X pins σ (upd H s.heap.objs.size (SetO X.w s.heap.objs.size (fun k => decide (k ∈ ns)) c)) { s with heap := h', toks := tk } := I.laid (t' := tk) k (Nat.le_refl _) (setO_new R)
  exact ⟨.ref s.heap.objs.size, _, J, rfl, q _ _ hn hcn⟩
end
end Pot

/-! The rules whose readings name the written part, with it as a letter of its own. -/
namespace Pot
open PySem PySem.Spec PyProof.Rows L2
section
variable {X : Cx} {K : PySem.W.Frag}
theorem kx_list (h : X.K = K := by rfl) : IxR X (rIxL K) := h ▸ ix_list
theorem kx_tup (h : X.K = K := by rfl) : IxR X (rIxT K) := h ▸ ix_tup
theorem kl_list (h : X.K = K := by rfl) : SlR X (rSlL K) := h ▸ sl_list
theorem kl_tup (h : X.K = K := by rfl) : SlR X (rSlA K) := h ▸ sl_tupA
theorem ko_in (h : X.K = K := by rfl) : OpR X (compareOp .In) (rIn K false) := h ▸ op_in_seq
theorem ko_eq (hu : X.A.units + 64 < cLine) (h : X.K = K := by rfl) : OpR X (compareOp .Eq) (rEqD K) := h ▸ op_eqD hu
theorem ko_ne (hu : X.A.units + 64 < cLine) (h : X.K = K := by rfl) : OpR X (compareOp .NotEq) (rNeD K) := h ▸ op_neD hu
def rLen (K : PySem.W.Frag) : List V → Hp → VK → Prop := fun xs H Q => ∃ x n, xs = [x] ∧ LenV K x H n ∧ Q (.int n) H
theorem kc_len (h : X.K = K := by rfl) : CallR X (.builtin "len") (rLen K) := by subst h; exact call_len
def rListOf (K : PySem.W.Frag) : List V → Hp → VK → Prop := fun xs H Q => ∃ p ys, xs = [.ref p] ∧ (SqL K H p ys ∨ SqT K H p ys) ∧ ∀ l, H l = none → Q (.ref l) (upd H l (.lst ys))
theorem kc_list (h : X.K = K := by rfl) : CallR X (.type "list") (rListOf K) := by subst h; exact call_list_of
def rTupleOf (K : PySem.W.Frag) : List V → Hp → VK → Prop := fun xs H Q => ∃ p ys, xs = [.ref p] ∧ ((SqL K H p ys ∧ ∀ l, H l = none → Q (.ref l) (upd H l (.tup ys))) ∨ (SqT K H p ys ∧ Q (.ref p) H))
theorem kc_tuple (h : X.K = K := by rfl) : CallR X (.type "tuple") (rTupleOf K) := by subst h; exact call_tuple_of
theorem kc_sum (hc : X.calm = true := by rfl) (h : X.K = K := by rfl) : CallR X (.builtin "sum") (rSum K) := h ▸ cr_sum hc
theorem kc_all (hc : X.calm = true := by rfl) (h : X.K = K := by rfl) : CallR X (.builtin "all") (rAll K) := h ▸ cr_all hc
theorem kc_any (hc : X.calm = true := by rfl) (h : X.K = K := by rfl) : CallR X (.builtin "any") (rAny K) := h ▸ cr_any hc
theorem kc_sorted (h : X.K = K := by rfl) : CallR X (.builtin "sorted") (rSorted K) := h ▸ cr_sorted
theorem kc_sortedS (h : X.K = K := by rfl) : CallR X (.builtin "sorted") (rSortedS K) := h ▸ cr_sortedS
theorem kc_isi (h : X.K = K := by rfl) : CallR X (.builtin "isinstance") (rIsi K) := h ▸ call_isi
theorem kc_isiT (h : X.K = K := by rfl) : CallR X (.builtin "isinstance") (rIsiT K) := h ▸ call_isiT
theorem kc_repr (gd : X.A.guards = some []) (hu : X.A.units + 64 < cLine) (h : X.K = K := by rfl) : CallR X (.builtin "repr") (rRepr K) := h ▸ cr_repr gd hu
theorem kc_setLi {w : World} (hc : X.calm = true := by rfl) (h : X.K = K := by rfl) (hw : X.w = w := by rfl) : CallR X (.type "set") (rSetLi K w) := by subst h; subst hw; exact cr_setLi hc
theorem kc_sortedSet {w : World} (hc : X.calm = true := by rfl) (hw : X.w = w := by rfl) : CallR X (.builtin "sorted") (rSortedSet w) := hw ▸ cr_sortedSet hc
theorem ki_list {tg l : Expr} {tl : TE} (hl : PE X l tl) (h : X.K = K := by rfl) : PI X tg l (iList K tl) := h ▸ pi_list hl
theorem ki_tup {tg l : Expr} {tl : TE} (hl : PE X l tl) (h : X.K = K := by rfl) : PI X tg l (iTup K tl) := h ▸ pi_tup hl
theorem ki_zip {e e2 : Expr} {ta : TA} {p pos tpos : Pos} {elts : List Expr} {kk : Nat} (hg : Gl X "zip") (hm : X.mg "zip" = none) (ha : PA X [e, e2] ta) (hs : starEach [e, e2] X.env = (false, eval e X.env) :: starEach [e2] X.env := by rfl)
    (hpl : (backTo pos (starEach [e2] X.env)).any (·.1) = false := by rfl) (h : X.K = K := by rfl) : PI X (.Tuple elts kk tpos) (.Call (.Name "zip" p) [e, e2] [] pos) (RZ.iZipA K ta) := h ▸ RZ.pi_zipA hg hm ha hs hpl
theorem ki_enum {e : Expr} {ta : TA} {p pos tpos : Pos} {elts : List Expr} {kk : Nat} (hg : Gl X "enumerate") (hm : X.mg "enumerate" = none) (ha : PA X [e] ta) (hs : starEach [e] X.env = [(false, eval e X.env)] := by rfl) (h : X.K = K := by rfl)
    : PI X (.Tuple elts kk tpos) (.Call (.Name "enumerate" p) [e] [] pos) (iEnum K ta) := h ▸ pi_enum hg hm ha hs
theorem kg_tup {pos : Pos} {es : List Expr} {k : Nat} {t : TGs} {n : Nat} (h : PGs X es t) (hc : X.calm = true := by rfl) (hn : (assignEach es X.env).length = n := by rfl) (hst : (assignEach es X.env).findIdx? (·.1) = none := by rfl) (hk : X.K = K := by rfl) : PG X (.Tuple es k pos) (gTup K n t) := hk ▸ pg_tup hc h hn hst
def tTru (K : PySem.W.Frag) (ta : TE) : TT := fun σ H Q => ta σ H fun x H' => ∃ k, TruV K x H' k ∧ Q k H'
theorem kt_truth {a : Expr} {ta : TE} (ha : PE X a ta) (he : ∀ whole, isTrue a X.env whole = (do let v ← whole; standAt a.pos; holding [v] (truthy v)) := by intro _; rfl) (h : X.K = K := by rfl) : PT X a (tTru K ta) := by subst h; exact pt_truth ha he
def rJoin (K : PySem.W.Frag) : V → List V → Hp → VK → Prop := fun x xs H Q => ∃ a p, ∃ ys : List Str, x = .str a ∧ xs = [.ref p] ∧ (SqL K H p (ys.map V.str) ∨ SqT K H p (ys.map V.str)) ∧ (ys.map (·.length)).sum + ys.length * a.length ≤ 16777216 ∧ Q (.str (Txt.join a ys)) H
theorem ke_join {o e : Expr} {to te : TE} {apos pos : Pos} (ho : PE X o to) (he : PE X e te) (hs : starEach [e] X.env = [(false, eval e X.env)] := by rfl) (hbase : attributeBase o "join" X.env (eval o X.env) = eval o X.env := by rfl) (hline : (apos.endLine == pos.line) = true := by rfl) (h : X.K = K := by rfl) :
    PE X (.Call (.Attribute o "join" apos) [e] [] pos) (tM1 (rJoin K) to te) := by subst h; exact pe_join ho he hs hbase hline
theorem pss_never {st : List Stmt} : PSs X st (fun _ _ _ => False) := ⟨fun _ _ _ _ _ _ h => h.elim⟩
theorem ps_never {st : Stmt} : PS X st (fun _ _ _ => False) := ⟨fun _ _ _ _ _ _ h => h.elim⟩
theorem pe_never {e : Expr} : PE X e (fun _ _ _ => False) := ⟨fun _ _ _ _ _ _ h => h.elim⟩
theorem tYes_at {σ : L2.St} {H : Hp} {Q : Bool → Hp → Prop} (h : Q true H) : tYes σ H Q := h
end
end Pot

namespace Pot
open PySem PySem.Spec PyProof.Rows L2
/-- built-in names that the module gives no other meaning -/
structure Txt (mg : Str → Option Value) : Prop where
  len : mg "len" = none
  divmod : mg "divmod" = none
  range : mg "range" = none
  sum : mg "sum" = none
  all : mg "all" = none
  any : mg "any" = none
  isinstance : mg "isinstance" = none
  str : mg "str" = none
  int : mg "int" = none
  list : mg "list" = none
  tuple : mg "tuple" = none
  bool : mg "bool" = none
  zip : mg "zip" = none
  set : mg "set" = none
  sorted : mg "sorted" = none
  enumerate : mg "enumerate" = none
  repr : mg "repr" = none
  min : mg "min" = none
  max : mg "max" = none
  abs : mg "abs" = none
/-- a def that may be called by its name: what it keeps, at which level -/
def Cl (P : Program) (w : World) (K : PySem.W.Frag) (mg : Str → Option Value) (base : Heap) (k : Nat) (x : Str) (sp : Sp) : Prop :=
  ∃ (f : Addr) (fd : FuncData) (ps : List Str), FnOk P w K mg base CX0 k f fd ps sp ∧ mg x = some (.ref f) ∧ PySem.W.keepIn K (.ref f) = true ∧ Binds K fd ps []
theorem pe_cl {X : Cx} {k j : Nat} {x : Str} {sp : Sp} {e : Expr} {es : List Expr} {t : TA} {p pos : Pos} (c : Cl X.prog X.w X.K X.mg X.base k x sp) (hr : Room j X.A) (hk : k ≤ j) (hg : Gl X x) (ha : PA X (e :: es) t) (hdb : (x == ("__debug__" : Str)) = false := by decide)
    (he : starEach (e :: es) X.env = (false, eval e X.env) :: starEach es X.env := by rfl) (hpl : (backTo pos (starEach es X.env)).any (·.1) = false := by rfl) : PE X (.Call (.Name x p) (e :: es) [] pos) (tCall sp [] E0 t) := by
  obtain ⟨f, fd, ps, G, hm, kp, b⟩ := c
  exact pe_call G (hr.mono hk) hg hm kp b .nil pass0 ha hdb he hpl
/-! ### the drawing state -/
def dS (c : Addr) (t : Int) : List (Key × V) := [(Sum.inr "cells", .ref c), (Sum.inr "turn", .int t)]
/-- at d stands a state of the law: its cells at c, its turn at most n -/
def StAt (H : Hp) (d c : Addr) (n : Nat) : Prop := d ≠ c ∧ ∃ (xs : List Int) (t : Int),
  H d = some (.dK (dS c t)) ∧ H c = some (.lst (xs.map V.int)) ∧ xs ≠ [] ∧ xs.length ≤ 63 ∧ 0 ≤ t ∧ t ≤ n
/-- all that was tracked stands, but d and c -/
def Kp (d c : Addr) (H H' : Hp) : Prop := ∀ b o, b ≠ d → b ≠ c → H b = some o → H' b = some o
theorem Kp.refl (d c : Addr) (H : Hp) : Kp d c H H := fun _ _ _ _ e => e
theorem Kp.trans {d c : Addr} {H H1 H2 : Hp} (a : Kp d c H H1) (b : Kp d c H1 H2) : Kp d c H H2 := fun x o h1 h2 e => b x o h1 h2 (a x o h1 h2 e)
theorem Kp.of {d c : Addr} {H H' : Hp} (s : Same H H') : Kp d c H H' := fun x o _ _ e => s x o e
theorem same_upd {H : Hp} {p : Addr} {o : HO} (h : H p = none) : Same H (upd H p o) := fun b x e => by
  rw [upd_ne (ne_of_none e h)]
  exact e
theorem same_put {H H' : Hp} {p : Addr} {o : HO} (s : Same H H') (h : H p = none) : Same H (upd H' p o) := fun b x e => by
  rw [upd_ne (ne_of_none e h)]
  exact s b x e
theorem kp_put {d c : Addr} {H H' : Hp} {p : Addr} {o : HO} (s : Kp d c H H') (h : H p = none) : Kp d c H (upd H' p o) := fun b x h1 h2 e => by
  rw [upd_ne (ne_of_none e h)]
  exact s b x h1 h2 e
theorem StAt.mono {H : Hp} {d c : Addr} {n m : Nat} (h : StAt H d c n) (k : n ≤ m) : StAt H d c m := by
  obtain ⟨h0, xs, t, h1, h2, h3, h4, h5, h6⟩ := h
  exact ⟨h0, xs, t, h1, h2, h3, h4, h5, by omega⟩
theorem StAt.same {H H' : Hp} {d c : Addr} {n : Nat} (h : StAt H d c n) (s : Same H H') : StAt H' d c n := by
  obtain ⟨h0, xs, t, h1, h2, h3, h4, h5, h6⟩ := h
  exact ⟨h0, xs, t, s _ _ h1, s _ _ h2, h3, h4, h5, h6⟩
theorem Kp.free {d c : Addr} {H H' : Hp} {n : Nat} {l : Addr} (k : Kp d c H H') (s : StAt H' d c n) (h : H' l = none) : H l = none := by
  obtain ⟨_, xs, t, h1, h2, _⟩ := s
  have n1 : l ≠ d := (ne_of_none h1 h).symm
  have n2 : l ≠ c := (ne_of_none h2 h).symm
  cases e : H l with
  | none => rfl
  | some o =>
    rw [k l o n1 n2 e] at h
    cases h
theorem StAt.ne1 {H : Hp} {d c : Addr} {n : Nat} {l : Addr} (s : StAt H d c n) (h : H l = none) : d ≠ l := by
  obtain ⟨_, xs, t, h1, h2, _⟩ := s
  exact ne_of_none h1 h
theorem StAt.ne2 {H : Hp} {d c : Addr} {n : Nat} {l : Addr} (s : StAt H d c n) (h : H l = none) : c ≠ l := by
  obtain ⟨_, xs, t, h1, h2, _⟩ := s
  exact ne_of_none h2 h
theorem StAt.put {H : Hp} {d c : Addr} {n : Nat} {l : Addr} {o : HO} (s : StAt H d c n) (n1 : d ≠ l) (n2 : c ≠ l) : StAt (upd H l o) d c n := by
  obtain ⟨h0, xs, t, h1, h2, h3, h4, h5, h6⟩ := s
  exact ⟨h0, xs, t, by rw [upd_ne n1]; exact h1, by rw [upd_ne n2]; exact h2, h3, h4, h5, h6⟩
theorem val_turn (c : Addr) (t : Int) : valV (dS c t) (Sum.inr "turn") = some (.int t) := by
  have e : ¬ ((Sum.inr (Str.ofString "cells") : Key) = Sum.inr (Str.ofString "turn")) := by decide +kernel
  unfold dS; rw [valV_neg e, valV_pos rfl]
theorem val_cells (c : Addr) (t : Int) : valV (dS c t) (Sum.inr "cells") = some (.ref c) := by
  unfold dS; rw [valV_pos rfl]
theorem put_turn (c : Addr) (t u : Int) : putK (dS c t) (Sum.inr "turn") (.int u) = dS c u := by
  have e : ¬ ((Sum.inr (Str.ofString "cells") : Key) = Sum.inr (Str.ofString "turn")) := by decide +kernel
  unfold putK dS
  simp [e]

theorem dget_turn {H : Hp} {d c : Addr} {t : Int} (h : H d = some (.dK (dS c t))) : DGet H d (.str "turn") (some (.int t)) := by
  rw [← val_turn c t]; exact DGet.k (k := Sum.inr "turn") h
theorem dget_cells {H : Hp} {d c : Addr} {t : Int} (h : H d = some (.dK (dS c t))) : DGet H d (.str "cells") (some (.ref c)) := by
  rw [← val_cells c t]; exact DGet.k (k := Sum.inr "cells") h
theorem dput_turn {H : Hp} {d c : Addr} {t : Int} (u : Int) (h : H d = some (.dK (dS c t))) : DPut H d (.str "turn") (.int u) (upd H d (.dK (dS c u))) := by
  rw [← put_turn c t u]; exact DPut.k (k := Sum.inr "turn") h (by show 2 < sizeLine; decide)
theorem ge18 (x : Int) : (decide ((10 : Int) ^ (18 : Int).toNat ≤ x) = true) ↔ 1000000000000000000 ≤ x := by
  have e : (10 : Int) ^ (18 : Int).toNat = 1000000000000000000 := by decide
  rw [e, decide_eq_true_eq]
theorem cmul_mod (a b : Int) {m : Int} (h0 : 0 < m) (h1 : m < 2 ^ 64) : CMul (a % m) b := by
  have p := Int.emod_nonneg a (show m ≠ 0 by omega)
  have q := Int.emod_lt_of_pos a h0
  exact .inl ⟨by omega, by omega⟩
theorem mod_at {xs : List Int} {u : Int} (hx : xs ≠ []) : ∃ (j : Nat) (y : Int), u % ((xs.map V.int).length : Int) = (j : Int) ∧ j < xs.length ∧ xs[j]? = some y := by
  have h0 : 0 < xs.length := List.length_pos_iff.mpr hx
  rw [List.length_map]
  have a := Int.emod_nonneg u (show (xs.length : Int) ≠ 0 by omega)
  have b := Int.emod_lt_of_pos u (show (0 : Int) < (xs.length : Int) by omega)
  refine ⟨(u % (xs.length : Int)).toNat, xs[(u % (xs.length : Int)).toNat]'(by omega), by omega, by omega, ?_⟩
  exact List.getElem?_eq_getElem _

section
variable {K : PySem.W.Frag}
theorem cut63 {xs : List V} (h : xs.length ≤ 63) : cutV xs none (some 63) = xs := by
  unfold cutV
  rw [HT.sIx_none, show HT.sIx xs.length xs.length (some 63) = min 63 xs.length from HT.sIx_nat xs.length xs.length 63, Nat.min_eq_right h]
  simp
theorem dp_ints {H : Hp} (ns : List Int) : DpAll K H (ns.map V.int) (ns.map PyData.int) := by
  induction ns with
  | nil => exact .nil
  | cons n r ih => exact .cons (.int n) ih
theorem same_tup {H H' : Hp} {a : Addr} {xs : List V} (e : Same H H') (h : SqT K H a xs) : SqT K H' a xs := by
  rcases h with (h | ⟨o, h⟩) | h
  · exact .inl (.inl (e _ _ h))
  · exact .inl (.inr ⟨o, e _ _ h⟩)
  · exact .inr h
mutual
theorem dp_same {H H' : Hp} (s : Same H H') : ∀ {v : V} {d : PyData}, Dp K H v d → Dp K H' v d
  | _, _, .non => .non
  | _, _, .bl b => .bl b
  | _, _, .int i => .int i
  | _, _, .str x => .str x
  | _, _, .lst h a => .lst (s.seq h) (dpAll_same s a)
  | _, _, .tup h a => .tup (same_tup s h) (dpAll_same s a)
theorem dpAll_same {H H' : Hp} (s : Same H H') : ∀ {vs : List V} {ds : List PyData}, DpAll K H vs ds → DpAll K H' vs ds
  | _, _, .nil => .nil
  | _, _, .cons h t => .cons (dp_same s h) (dpAll_same s t)
end
theorem dpAll_len {H : Hp} : ∀ {vs : List V} {ds : List PyData}, DpAll K H vs ds → vs.length = ds.length
  | _, _, .nil => rfl
  | _, _, .cons _ t => by rw [List.length_cons, List.length_cons, dpAll_len t]
theorem dpAll_at {H : Hp} : ∀ {vs : List V} {ds : List PyData} {i : Nat} {v : V}, DpAll K H vs ds → vs[i]? = some v → ∃ d, ds[i]? = some d ∧ Dp K H v d
  | _, _, _, _, .nil, h => by simp at h
  | _, _, 0, _, .cons h _, e => ⟨_, rfl, by cases e; exact h⟩
  | _, _, i + 1, _, .cons _ t, e => dpAll_at (i := i) t e
theorem depth_at : ∀ {ds : List PyData} {i : Nat} {d : PyData}, ds[i]? = some d → d.depth ≤ PyData.depthAll ds
  | [], _, _, h => by simp at h
  | x :: r, 0, d, h => by cases h; unfold PyData.depthAll; exact Nat.le_max_left ..
  | x :: r, i + 1, d, h => by
    have := depth_at (ds := r) (i := i) (d := d) h
    unfold PyData.depthAll
    exact Nat.le_trans this (Nat.le_max_right ..)
theorem tyx_list {H : Hp} {a : Addr} {xs : List V} (h : SqL K H a xs) : TyX K H (.ref a) (.type "list") := by
  rcases h with (h | ⟨o, h⟩) | ⟨o, its, n, h1, h2, _⟩
  · exact .base (.lst h)
  · exact .base (.frz h)
  · exact .kList h1 h2
theorem tyx_tup {H : Hp} {a : Addr} {xs : List V} (h : SqT K H a xs) : TyX K H (.ref a) (.type "tuple") := by
  rcases h with (h | ⟨o, h⟩) | ⟨o, its, n, h1, h2, _⟩
  · exact .base (.tup h)
  · exact .fTuple h
  · exact .kTuple h1 h2
theorem walk_zipT {a b : Addr} {xs ys : List V} {n : Nat} (hn : n = min xs.length ys.length) : Walk (RZ.ItzT K a b) n (fun H => SqT K H a xs ∧ SqT K H b ys) (YPair (fun i => xs[i]?) (fun i => ys[i]?)) := by
  subst hn
  refine ⟨fun i _ hi q => ?_, fun _ q => ⟨xs, ys, q.1, q.2, by omega⟩, fun i H v H' _ q y => ?_⟩
  · exact ⟨xs, ys, xs[i]'(by omega), ys[i]'(by omega), q.1, q.2, List.getElem?_eq_getElem _, List.getElem?_eq_getElem _⟩
  · obtain ⟨T, x, z, e1, e2, e3, e4, e5⟩ := y
    exact ⟨T, x, z, e1, e2, e3, e4 xs q.1, e5 ys q.2⟩
/-- the longest list within -/
def widAll : List PyData → Nat
  | [] => 0
  | x :: xs => max (wid x) (widAll xs)
where wid : PyData → Nat
  | .list xs => max xs.length (widAll xs)
  | .tuple xs => max xs.length (widAll xs)
  | _ => 0
theorem wid_at : ∀ {ds : List PyData} {i : Nat} {d : PyData}, ds[i]? = some d → widAll.wid d ≤ widAll ds
  | [], _, _, h => by simp at h
  | x :: r, 0, d, h => by cases h; unfold widAll; exact Nat.le_max_left ..
  | x :: r, i + 1, d, h => by
    have := wid_at (ds := r) (i := i) (d := d) h
    unfold widAll
    exact Nat.le_trans this (Nat.le_max_right ..)
theorem depth_ints (ns : List Int) : (PyData.list (ns.map PyData.int)).depth = 1 := by
  have h : ∀ l : List Int, PyData.depthAll (l.map PyData.int) = 0 := by
    intro l
    induction l with
    | nil => rfl
    | cons x r ih =>
      show max 0 (PyData.depthAll (r.map PyData.int)) = 0
      rw [ih]
      rfl
  show PyData.depthAll (ns.map PyData.int) + 1 = 1
  rw [h]
theorem wid_ints (ns : List Int) : widAll.wid (PyData.list (ns.map PyData.int)) = ns.length := by
  have h : ∀ l : List Int, widAll (l.map PyData.int) = 0 := by
    intro l
    induction l with
    | nil => rfl
    | cons x r ih =>
      show max 0 (widAll (r.map PyData.int)) = 0
      rw [ih]
      rfl
  show max (ns.map PyData.int).length (widAll (ns.map PyData.int)) = ns.length
  rw [h, List.length_map, Nat.max_zero]
theorem flat_ints (ns : List Int) : (ns.map V.int).all flatV = true := by
  rw [List.all_eq_true]
  intro x hx
  obtain ⟨k, _, rfl⟩ := List.mem_map.mp hx
  rfl
end
section
variable {P : Program} {w : World} {K : PySem.W.Frag} {mg : Str → Option Value} {base : Heap}
/-- a def with values that may be left out -/
abbrev FunV (K : PySem.W.Frag) (x : Str) (st : Stmt) (dvs : List V) (f : Addr) (fd : FuncData) : Prop := FunD K x x (defArgs st) (defBody st) (defScope st) dvs [] f fd
theorem okD {x : Str} {st : Stmt} {dvs : List V} {f : Addr} {fd : FuncData} {N ps : List Str} {k : Nat} {sp : Sp} (F : FunV K x st dvs f fd) (S : FnScope N ps (defScope st)) (len : ∀ vs H Q E, sp vs H Q E → vs.length = ps.length)
    (body : ∀ (cdv : Value) (A : Around) (outer : List Env) (s : Shared) (H : Hp) (vs : List V) (Q : VK) (E : XK), Room k (A.deeper (envOfC x (defScope st) s.heap.objs.size f cdv)) → sp vs H Q E →
      ∃ t, PSs (cxOf CX0 P w K mg base N x (defScope st) f cdv A outer s H E).nox (defBody st) t ∧ t { nx := fun _ H' => Q .non H', rt := Q } (start N vs) H) : FnOk P w K mg base CX0 (k + 1) f fd ps sp :=
  FunD.ok F S len fun cdv A outer s H vs Q E hr h => by
    obtain ⟨t, ht, hq⟩ := body cdv A outer s H vs Q E hr h
    exact ⟨t, ht.nox, hq⟩
/-- a def that may be called by its name, the values ds being left out -/
def ClD (P : Program) (w : World) (K : PySem.W.Frag) (mg : Str → Option Value) (base : Heap) (k : Nat) (x : Str) (ds : List V) (sp : Sp) : Prop :=
  ∃ (f : Addr) (fd : FuncData) (ps : List Str) (dus : List Value), FnOk P w K mg base CX0 k f fd ps sp ∧ mg x = some (.ref f) ∧ PySem.W.keepIn K (.ref f) = true ∧ Binds K fd ps dus ∧ Vals ds dus
theorem pe_cd {X : Cx} {k j : Nat} {x : Str} {ds : List V} {sp : Sp} {e : Expr} {es : List Expr} {t : TA} {p pos : Pos} (c : ClD X.prog X.w X.K X.mg X.base k x ds sp) (hr : Room j X.A) (hk : k ≤ j) (hg : Gl X x) (ha : PA X (e :: es) t) (hdb : (x == ("__debug__" : Str)) = false := by decide)
    (he : starEach (e :: es) X.env = (false, eval e X.env) :: starEach es X.env := by rfl) (hpl : (backTo pos (starEach es X.env)).any (·.1) = false := by rfl) : PE X (.Call (.Name x p) (e :: es) [] pos) (tCall sp ds E0 t) := by
  obtain ⟨f, fd, ps, dus, G, hm, kp, b, dv⟩ := c
  exact pe_call G (hr.mono hk) hg hm kp b dv pass0 ha hdb he hpl
theorem Cl.mono {k j : Nat} {x : Str} {sp : Sp} (c : Cl P w K mg base k x sp) (h : k ≤ j) : Cl P w K mg base j x sp := by
  obtain ⟨f, fd, ps, G, r⟩ := c
  exact ⟨f, fd, ps, G.mono h, r⟩
end
end Pot

namespace Pot
open PySem PySem.Spec PyProof.Rows L2
/-! ### a box of three numbers from which is drawn, and all that stands beside it -/
def Bx (H : Hp) (b : Addr) : Prop := ∃ x y z : Int, H b = some (.lst [.int x, .int y, .int z])
/-- the heap without some -/
def off (H : Hp) (S : List Addr) : Hp := fun x => if x ∈ S then none else H x
theorem off_in {H : Hp} {S : List Addr} {x : Addr} (h : x ∈ S) : off H S x = none := if_pos h
theorem off_out {H : Hp} {S : List Addr} {x : Addr} (h : x ∉ S) : off H S x = H x := if_neg h
theorem off_mem {H : Hp} {S : List Addr} {x : Addr} {o : HO} (h : off H S x = some o) : x ∉ S := fun e => by rw [off_in e] at h; cases h
theorem off_sub {H : Hp} {S : List Addr} : Same (off H S) H := fun x o h => by
  have n := off_mem h
  rw [off_out n] at h; exact h
theorem off_mono {H : Hp} {S T : List Addr} (h : ∀ x ∈ T, x ∈ S) : Same (off H S) (off H T) := fun x o e => by
  have n := off_mem e
  rw [off_out n] at e
  rw [off_out fun z => n (h x z)]; exact e
/-- what stands beside S stands -/
abbrev Sm (S : List Addr) (H H' : Hp) : Prop := Same (off H S) (off H' S)
theorem sm_mono {H H' : Hp} {S T : List Addr} (h : ∀ x ∈ T, x ∈ S) (s : Sm T H H') : Sm S H H' := fun x o e => by
  have n := off_mem e
  rw [off_out n] at e ⊢
  have n2 : x ∉ T := fun z => n (h x z)
  have := s x o (by rw [off_out n2]; exact e)
  rw [off_out n2] at this; exact this
theorem sm_one {H H' : Hp} {S : List Addr} {b : Addr} (h : b ∈ S) (s : Sm [b] H H') : Sm S H H' := sm_mono (fun x hx => by rw [List.mem_singleton.mp hx]; exact h) s
theorem sm_of {H H' : Hp} {S : List Addr} (s : Same H H') : Sm S H H' := fun x o h => by
  have n := off_mem h
  rw [off_out n] at h ⊢; exact s x o h
theorem sm_put {H : Hp} {S : List Addr} {p : Addr} {o : HO} (h : H p = none) : Sm S H (upd H p o) := sm_of (same_upd h)
theorem sm_wr {H : Hp} {S : List Addr} {p : Addr} {o : HO} (h : p ∈ S) : Sm S H (upd H p o) := fun x u e => by
  have n := off_mem e
  rw [off_out n] at e ⊢
  have ne : x ≠ p := fun z => n (by rw [z]; exact h)
  rw [upd_ne ne]; exact e
theorem at_off {H : Hp} {S : List Addr} {x : Addr} {o : HO} (h : off H S x = some o) : H x = some o := off_sub x o h
theorem Bx.bx {H : Hp} {b : Addr} (B : Bx H b) : Bx H b := B
theorem Bx.ne {H : Hp} {b p : Addr} (B : Bx H b) (h : H p = none) : p ≠ b := fun e => by
  obtain ⟨x, y, z, B⟩ := B
  rw [e, B] at h; cases h
theorem Bx.same {H H' : Hp} {b : Addr} (B : Bx H b) (s : Same H H') : Bx H' b := by
  obtain ⟨x, y, z, B⟩ := B
  exact ⟨x, y, z, s _ _ B⟩
theorem Bx.put {H : Hp} {b p : Addr} {o : HO} (B : Bx H b) (h : H p = none) : Bx (upd H p o) b := B.same (same_upd h)
theorem Bx.wr {H : Hp} {b p : Addr} {o : HO} (B : Bx H b) (h : p ≠ b) : Bx (upd H p o) b := by
  obtain ⟨x, y, z, B⟩ := B
  exact ⟨x, y, z, by rw [upd_ne h.symm]; exact B⟩
/-- all of S are there -/
def Live (S : List Addr) (H : Hp) : Prop := ∀ s ∈ S, H s ≠ none
theorem Live.same {S : List Addr} {H H' : Hp} (L : Live S H) (s : Same H H') : Live S H' := fun x hx e => by
  cases h : H x with
  | none => exact L x hx h
  | some o => rw [s x o h] at e; cases e
theorem Live.box {S : List Addr} {H H' : Hp} {b : Addr} (L : Live S H) (B : Bx H' b) (s : Sm [b] H H') : Live S H' := fun x hx e => by
  by_cases hb : x = b
  · obtain ⟨_, _, _, B⟩ := B
    rw [hb, B] at e; cases e
  · have n : x ∉ [b] := fun z => hb (List.mem_singleton.mp z)
    cases h : H x with
    | none => exact L x hx h
    | some o =>
      have := s x o (by rw [off_out n]; exact h)
      rw [off_out n, e] at this; cases this
theorem Live.put {S : List Addr} {H : Hp} {p : Addr} {o : HO} (L : Live S H) (h : H p = none) : Live S (upd H p o) := L.same (same_upd h)
theorem Live.wr {S : List Addr} {H : Hp} {p : Addr} {o : HO} (L : Live S H) : Live S (upd H p o) := fun x hx e => by
  by_cases hp : x = p
  · rw [hp, upd_same] at e; cases e
  · rw [upd_ne hp] at e; exact L x hx e
theorem Live.one {H : Hp} {b : Addr} (B : Bx H b) : Live [b] H := fun x hx e => by
  obtain ⟨_, _, _, B⟩ := B
  rw [List.mem_singleton.mp hx, B] at e; cases e
theorem Live.out {S : List Addr} {H : Hp} {p : Addr} (L : Live S H) (h : H p = none) : p ∉ S := fun z => L p z h
theorem Live.cons {S : List Addr} {H : Hp} {p : Addr} {o : HO} (L : Live S H) (h : H p = some o) : Live (p :: S) H := fun x hx e => by
  rcases List.mem_cons.mp hx with z | z
  · rw [z, h] at e; cases e
  · exact L x z e
theorem off_new {H : Hp} {S : List Addr} {p : Addr} {o : HO} (L : Live S H) (h : H p = none) : off (upd H p o) S p = some o := by
  rw [off_out (L.out h)]; exact upd_same
theorem off_upd {H : Hp} {S : List Addr} {p : Addr} {o : HO} (h : p ∉ S) : off (upd H p o) S p = some o := by
  rw [off_out h]; exact upd_same
section
variable {K : PySem.W.Frag}
theorem sq_off {H : Hp} {S : List Addr} {a : Addr} {xs : List V} (h : SqL K (off H S) a xs) : SqL K H a xs := off_sub.seq h
theorem sqt_off {H : Hp} {S : List Addr} {a : Addr} {xs : List V} (h : SqT K (off H S) a xs) : SqT K H a xs := same_tup off_sub h
theorem dp_off {H : Hp} {S : List Addr} {v : V} {d : PyData} (h : Dp K (off H S) v d) : Dp K H v d := dp_same off_sub h
/-- a new list is none of S, beside which the rest stands as it was -/
theorem off_fresh {H : Hp} {S : List Addr} {p : Addr} {o : HO} (h : H p = none) : off (upd H p o) (p :: S) = off H S := by
  funext x; unfold off
  by_cases e : x = p
  · subst e
    rw [if_pos List.mem_cons_self, h]
    split <;> rfl
  · have : (x ∈ p :: S) ↔ x ∈ S := by rw [List.mem_cons]; exact ⟨fun z => z.resolve_left e, .inr⟩
    by_cases m : x ∈ S
    · rw [if_pos m, if_pos (this.mpr m)]
    · rw [if_neg m, if_neg fun z => m (this.mp z), upd_ne e]
end
/-! ### what is made of numbers, texts, truths, None, lists and tuples -/
/-- numbers within m, texts of at most 2000 signs -/
def gdAll (m : Nat) : List PyData → Prop
  | [] => True
  | x :: xs => gd m x ∧ gdAll m xs
where gd (m : Nat) : PyData → Prop
  | .none => True
  | .bool _ => True
  | .int i => i.natAbs ≤ m
  | .str x => x.length ≤ 2000 ∧ ∀ c ∈ x.cps.toList, c < 1114112
  | .list xs => gdAll m xs
  | .tuple xs => gdAll m xs
  | .dict _ => False
abbrev gd (m : Nat) (d : PyData) : Prop := gdAll.gd m d
theorem gdAll_iff {m : Nat} : ∀ {ds : List PyData}, gdAll m ds ↔ ∀ d ∈ ds, gd m d
  | [] => ⟨fun _ _ h => (List.not_mem_nil h).elim, fun _ => trivial⟩
  | x :: xs => by
    constructor
    · intro h d hd
      rcases List.mem_cons.mp hd with e | e
      · rw [e]; exact h.1
      · exact gdAll_iff.mp h.2 d e
    · intro h
      exact ⟨h x List.mem_cons_self, gdAll_iff.mpr fun d hd => h d (List.mem_cons_of_mem _ hd)⟩
mutual
theorem gd_mono {m n : Nat} (h : m ≤ n) : ∀ d : PyData, gd m d → gd n d
  | .none, _ => trivial
  | .bool _, _ => trivial
  | .int i, g => Nat.le_trans g h
  | .str _, g => g
  | .list xs, g => gdAll_mono h xs g
  | .tuple xs, g => gdAll_mono h xs g
  | .dict _, g => g.elim
theorem gdAll_mono {m n : Nat} (h : m ≤ n) : ∀ ds : List PyData, gdAll m ds → gdAll n ds
  | [], _ => trivial
  | x :: xs, g => ⟨gd_mono h x g.1, gdAll_mono h xs g.2⟩
end
theorem log_small' {i : Int} (h : i.natAbs ≤ 2000000) : i.natAbs.log2 < 1920 := by
  by_cases z : i.natAbs = 0
  · rw [z]; decide
  · have := (Nat.log2_lt z).mpr (show i.natAbs < 2 ^ 21 from Nat.lt_of_le_of_lt h (by decide))
    omega
mutual
theorem gd_fine {m : Nat} (h : m ≤ 2000000) : ∀ d : PyData, gd m d → fineAll.fine d
  | .none, _ => trivial
  | .bool _, _ => trivial
  | .int i, g => log_small' (Nat.le_trans g h)
  | .str _, g => fun c hc => Nat.lt_trans (g.2 c hc) (by decide)
  | .list xs, g => gdAll_fine h xs g
  | .tuple xs, g => gdAll_fine h xs g
  | .dict _, g => g.elim
theorem gdAll_fine {m : Nat} (h : m ≤ 2000000) : ∀ ds : List PyData, gdAll m ds → fineAll ds
  | [], _ => trivial
  | x :: xs, g => ⟨gd_fine h x g.1, gdAll_fine h xs g.2⟩
end
theorem costAll_app (xs ys : List PyData) : costAll (xs ++ ys) = costAll xs + costAll ys := by
  induction xs with
  | nil => simp [costAll]
  | cons x xs ih => simp only [List.cons_append, costAll, ih]; omega
theorem cost_mem {ds : List PyData} {d : PyData} (h : d ∈ ds) : costAll.cost d + 2 ≤ costAll ds := by
  induction ds with
  | nil => exact (List.not_mem_nil h).elim
  | cons x xs ih =>
    show _ ≤ costAll.cost x + 2 + costAll xs
    rcases List.mem_cons.mp h with e | e
    · rw [e]; omega
    · have := ih e; omega
theorem len_cost : ∀ ds : List PyData, 2 * ds.length ≤ costAll ds
  | [] => Nat.le_refl _
  | x :: xs => by
    have := len_cost xs
    show 2 * (xs.length + 1) ≤ costAll.cost x + 2 + costAll xs
    omega
theorem depthAll_iff {D : Nat} : ∀ {ds : List PyData}, PyData.depthAll ds ≤ D ↔ ∀ d ∈ ds, d.depth ≤ D
  | [] => ⟨fun _ _ h => (List.not_mem_nil h).elim, fun _ => Nat.zero_le _⟩
  | x :: xs => by
    show max x.depth (PyData.depthAll xs) ≤ D ↔ _
    rw [Nat.max_le, depthAll_iff (ds := xs)]
    constructor
    · rintro ⟨h1, h2⟩ d hd
      rcases List.mem_cons.mp hd with e | e
      · rw [e]; exact h1
      · exact h2 d e
    · intro h
      exact ⟨h x List.mem_cons_self, fun d hd => h d (List.mem_cons_of_mem _ hd)⟩
/-- rows of parts: of numbers within m, their cost, how deep and how wide each -/
structure Ths (m C D W : Nat) (ds : List PyData) : Prop where
  g : ∀ d ∈ ds, gd m d
  c : costAll ds ≤ C
  d : ∀ d ∈ ds, d.depth ≤ D
  w : ∀ d ∈ ds, widAll.wid d ≤ W
/-- a thing: of numbers within m, its cost, how deep, how wide -/
structure Th (m C D W : Nat) (dd : PyData) : Prop where
  g : gd m dd
  c : costAll.cost dd ≤ C
  d : dd.depth ≤ D
  w : widAll.wid dd ≤ W
theorem widAll_iff {D : Nat} : ∀ {ds : List PyData}, widAll ds ≤ D ↔ ∀ d ∈ ds, widAll.wid d ≤ D
  | [] => ⟨fun _ _ h => (List.not_mem_nil h).elim, fun _ => Nat.zero_le _⟩
  | x :: xs => by
    show max (widAll.wid x) (widAll xs) ≤ D ↔ _
    rw [Nat.max_le, widAll_iff (ds := xs)]
    constructor
    · rintro ⟨h1, h2⟩ d hd
      rcases List.mem_cons.mp hd with e | e
      · rw [e]; exact h1
      · exact h2 d e
    · intro h
      exact ⟨h x List.mem_cons_self, fun d hd => h d (List.mem_cons_of_mem _ hd)⟩
section
variable {m n C E D F W U : Nat} {d x : PyData} {ds xs ys : List PyData}
theorem Th.mono (h : Th m C D W d) (a : m ≤ n) (b : C ≤ E) (c : D ≤ F) (e : W ≤ U) : Th n E F U d := ⟨gd_mono a d h.g, Nat.le_trans h.c b, Nat.le_trans h.d c, Nat.le_trans h.w e⟩
theorem Ths.mono (h : Ths m C D W ds) (a : m ≤ n) (b : C ≤ E) (c : D ≤ F) (e : W ≤ U) : Ths n E F U ds := ⟨fun x hx => gd_mono a x (h.g x hx), Nat.le_trans h.c b, fun x hx => Nat.le_trans (h.d x hx) c, fun x hx => Nat.le_trans (h.w x hx) e⟩
theorem Ths.app (h : Ths m C D W xs) (k : Ths m E D W ys) : Ths m (C + E) D W (xs ++ ys) :=
  ⟨fun d hd => (List.mem_append.mp hd).elim (h.g d) (k.g d), by rw [costAll_app]; exact Nat.add_le_add h.c k.c, fun d hd => (List.mem_append.mp hd).elim (h.d d) (k.d d), fun d hd => (List.mem_append.mp hd).elim (h.w d) (k.w d)⟩
theorem Ths.nil : Ths m 0 D W [] := ⟨fun _ h => (List.not_mem_nil h).elim, Nat.le_refl _, fun _ h => (List.not_mem_nil h).elim, fun _ h => (List.not_mem_nil h).elim⟩
theorem Ths.one (h : Th m C D W x) : Ths m (C + 2) D W [x] :=
  ⟨fun d hd => by rw [List.mem_singleton.mp hd]; exact h.g, by show costAll.cost x + 2 + 0 ≤ _; have := h.c; omega, fun d hd => by rw [List.mem_singleton.mp hd]; exact h.d, fun d hd => by rw [List.mem_singleton.mp hd]; exact h.w⟩
theorem Ths.mem (h : Ths m C D W ds) (e : d ∈ ds) : Th m C D W d := ⟨h.g d e, by have := cost_mem e; have := h.c; omega, h.d d e, h.w d e⟩
theorem Ths.len (h : Ths m C D W ds) : 2 * ds.length ≤ C := Nat.le_trans (len_cost ds) h.c
theorem Ths.list (h : Ths m C D W ds) (l : ds.length ≤ W) : Th m (C + 3) (D + 1) W (.list ds) :=
  ⟨gdAll_iff.mpr h.g, by show costAll ds + 3 ≤ _; have := h.c; omega, by show PyData.depthAll ds + 1 ≤ _; have := depthAll_iff.mpr h.d; omega, by show max ds.length (widAll ds) ≤ W; exact Nat.max_le.mpr ⟨l, widAll_iff.mpr h.w⟩⟩
theorem Ths.tuple (h : Ths m C D W ds) (l : ds.length ≤ W) : Th m (C + 3) (D + 1) W (.tuple ds) :=
  ⟨gdAll_iff.mpr h.g, by show costAll ds + 3 ≤ _; have := h.c; omega, by show PyData.depthAll ds + 1 ≤ _; have := depthAll_iff.mpr h.d; omega, by show max ds.length (widAll ds) ≤ W; exact Nat.max_le.mpr ⟨l, widAll_iff.mpr h.w⟩⟩
theorem Th.ofList (h : Th m C D W (.list ds)) : Ths m (C - 3) (D - 1) W ds ∧ ds.length ≤ W ∧ 3 ≤ C ∧ 1 ≤ D := by
  have h1 : costAll ds + 3 ≤ C := h.c
  have h2 : PyData.depthAll ds + 1 ≤ D := h.d
  have h3 : max ds.length (widAll ds) ≤ W := h.w
  exact ⟨⟨gdAll_iff.mp h.g, by omega, depthAll_iff.mp (by omega), widAll_iff.mp (Nat.le_trans (Nat.le_max_right ..) h3)⟩, Nat.le_trans (Nat.le_max_left ..) h3, by omega, by omega⟩
theorem Th.ofTuple (h : Th m C D W (.tuple ds)) : Ths m (C - 3) (D - 1) W ds ∧ ds.length ≤ W ∧ 3 ≤ C ∧ 1 ≤ D := by
  have h1 : costAll ds + 3 ≤ C := h.c
  have h2 : PyData.depthAll ds + 1 ≤ D := h.d
  have h3 : max ds.length (widAll ds) ≤ W := h.w
  exact ⟨⟨gdAll_iff.mp h.g, by omega, depthAll_iff.mp (by omega), widAll_iff.mp (Nat.le_trans (Nat.le_max_right ..) h3)⟩, Nat.le_trans (Nat.le_max_left ..) h3, by omega, by omega⟩
theorem costAll_take (n : Nat) (ds : List PyData) : costAll (ds.take n) ≤ costAll ds := by
  have := costAll_app (ds.take n) (ds.drop n)
  rw [List.take_append_drop] at this; omega
theorem costAll_drop (n : Nat) (ds : List PyData) : costAll (ds.drop n) ≤ costAll ds := by
  have := costAll_app (ds.take n) (ds.drop n)
  rw [List.take_append_drop] at this; omega
theorem costAll_rev : ∀ ds : List PyData, costAll ds.reverse = costAll ds
  | [] => rfl
  | x :: xs => by rw [List.reverse_cons, costAll_app, costAll_rev xs]; show _ + (costAll.cost x + 2 + 0) = costAll.cost x + 2 + costAll xs; omega
theorem Ths.sub (h : Ths m C D W ds) (s : ∀ x ∈ xs, x ∈ ds) (c : costAll xs ≤ C) : Ths m C D W xs := ⟨fun d hd => h.g d (s d hd), c, fun d hd => h.d d (s d hd), fun d hd => h.w d (s d hd)⟩
theorem Ths.take (h : Ths m C D W ds) (n : Nat) : Ths m C D W (ds.take n) := h.sub (fun d hd => List.mem_of_mem_take hd) (Nat.le_trans (costAll_take n ds) h.c)
theorem Ths.drop (h : Ths m C D W ds) (n : Nat) : Ths m C D W (ds.drop n) := h.sub (fun d hd => List.mem_of_mem_drop hd) (Nat.le_trans (costAll_drop n ds) h.c)
theorem Ths.rev (h : Ths m C D W ds) : Ths m C D W ds.reverse := h.sub (fun d hd => List.mem_reverse.mp hd) (by rw [costAll_rev]; exact h.c)
theorem costAll_set : ∀ (ds : List PyData) (i : Nat) (x : PyData), costAll (ds.set i x) ≤ costAll ds + (costAll.cost x + 2)
  | [], _, _ => Nat.zero_le _
  | y :: ys, 0, x => by show costAll.cost x + 2 + costAll ys ≤ costAll.cost y + 2 + costAll ys + _; omega
  | y :: ys, i + 1, x => by
    have := costAll_set ys i x
    show costAll.cost y + 2 + costAll (ys.set i x) ≤ costAll.cost y + 2 + costAll ys + _
    omega
theorem Ths.set {i : Nat} (h : Ths m C D W ds) (k : Th m E D W x) : Ths m (C + E + 2) D W (ds.set i x) :=
  ⟨fun d hd => (List.mem_or_eq_of_mem_set hd).elim (h.g d) fun e => by rw [e]; exact k.g, Nat.le_trans (costAll_set ds i x) (by have := h.c; have := k.c; omega), fun d hd => (List.mem_or_eq_of_mem_set hd).elim (h.d d) fun e => by rw [e]; exact k.d, fun d hd => (List.mem_or_eq_of_mem_set hd).elim (h.w d) fun e => by rw [e]; exact k.w⟩
end
section
variable {K : PySem.W.Frag} {H : Hp}
theorem dpAll_app' : ∀ {xs ys : List V} {ds es : List PyData}, DpAll K H xs ds → DpAll K H ys es → DpAll K H (xs ++ ys) (ds ++ es)
  | _, _, _, _, .nil, h => h
  | _, _, _, _, .cons h t, h2 => .cons h (dpAll_app' t h2)
theorem dpAll_take : ∀ {xs : List V} {ds : List PyData} (n : Nat), DpAll K H xs ds → DpAll K H (xs.take n) (ds.take n)
  | _, _, 0, _ => .nil
  | _, _, _ + 1, .nil => .nil
  | _, _, n + 1, .cons h t => .cons h (dpAll_take n t)
theorem dpAll_drop : ∀ {xs : List V} {ds : List PyData} (n : Nat), DpAll K H xs ds → DpAll K H (xs.drop n) (ds.drop n)
  | _, _, 0, h => h
  | _, _, _ + 1, .nil => .nil
  | _, _, n + 1, .cons _ t => dpAll_drop n t
theorem dpAll_rev : ∀ {xs : List V} {ds : List PyData}, DpAll K H xs ds → DpAll K H xs.reverse ds.reverse
  | _, _, .nil => .nil
  | _, _, .cons h t => by rw [List.reverse_cons, List.reverse_cons]; exact dpAll_app' (dpAll_rev t) (.cons h .nil)
theorem dpAll_set : ∀ {xs : List V} {ds : List PyData} {i : Nat} {v : V} {d : PyData}, DpAll K H xs ds → Dp K H v d → DpAll K H (xs.set i v) (ds.set i d)
  | _, _, _, _, _, .nil, _ => .nil
  | _, _, 0, _, _, .cons _ t, k => .cons k t
  | _, _, _ + 1, _, _, .cons h t, k => .cons h (dpAll_set t k)
/-- a slice of a row of parts -/
theorem dp_cut {xs : List V} {ds : List PyData} {lo hi : Option Int} {m C D W : Nat} (h : DpAll K H xs ds) (t : Ths m C D W ds) : ∃ es, DpAll K H (cutV xs lo hi) es ∧ Ths m C D W es ∧ es.length ≤ ds.length := by
  unfold cutV
  exact ⟨_, dpAll_take _ (dpAll_drop _ h), (t.drop _).take _, by rw [List.length_take, List.length_drop]; omega⟩
theorem dp_lst' {v : V} {ds : List PyData} (h : Dp K H v (.list ds)) : ∃ a xs, v = .ref a ∧ SqL K H a xs ∧ DpAll K H xs ds := by
  cases h with
  | lst h a => exact ⟨_, _, rfl, h, a⟩
end
end Pot
namespace Pot
open PySem PySem.Spec PyProof.Rows L2
theorem sm_at {H H' : Hp} {S : List Addr} {x : Addr} {o : HO} (s : Sm S H H') (n : x ∉ S) (h : H x = some o) : H' x = some o := by
  have := s x o (by rw [off_out n]; exact h)
  rw [off_out n] at this; exact this
theorem sm1_at {H H' : Hp} {b x : Addr} {o : HO} (s : Sm [b] H H') (n : x ≠ b) (h : H x = some o) : H' x = some o := sm_at s (fun z => n (List.mem_singleton.mp z)) h
theorem smp {H H' : Hp} {S : List Addr} {p : Addr} {o : HO} (s : Sm S H H') (h : H p = none) : Sm S H (upd H' p o) := fun x u e => by
  have n := off_mem e
  have ne : x ≠ p := fun z => by
    rw [off_out n, z, h] at e; cases e
  have := s x u e
  rw [off_out n] at this ⊢
  rw [upd_ne ne]; exact this
theorem sm_free {H H' : Hp} {b l : Addr} (s : Sm [b] H H') (B : Bx H' b) (h : H' l = none) : H l = none := by
  have nb := B.ne h
  have n : l ∉ [b] := fun z => nb (List.mem_singleton.mp z)
  cases e : H l with
  | none => rfl
  | some o => rw [sm_at s n e] at h; cases h
theorem cut_map {α : Type} (f : α → V) (ns : List α) (lo hi : Option Int) : cutV (ns.map f) lo hi = ((ns.drop (HT.sIx ns.length 0 lo)).take (HT.sIx ns.length ns.length hi - HT.sIx ns.length 0 lo)).map f := by
  unfold cutV
  rw [List.length_map, List.map_take, List.map_drop]
theorem cut_head {xs : List V} {k : Nat} : cutV xs none (some (k : Int)) = xs.take k := by
  unfold cutV
  rw [HT.sIx_none, HT.sIx_nat, List.drop_zero, Nat.sub_zero]
  by_cases h : k ≤ xs.length
  · rw [Nat.min_eq_left h]
  · rw [Nat.min_eq_right (by omega), List.take_length, List.take_of_length_le (by omega)]
theorem cut_tail {xs : List V} {k : Nat} : cutV xs (some (k : Int)) none = xs.drop k := by
  unfold cutV
  rw [HT.sIx_none, HT.sIx_nat]
  by_cases h : k ≤ xs.length
  · rw [Nat.min_eq_left h, List.take_of_length_le (by rw [List.length_drop]; exact Nat.le_refl _)]
  · rw [Nat.min_eq_right (by omega), Nat.sub_self, List.take_zero, List.drop_of_length_le (by omega)]
end Pot
namespace Pot
open PySem PySem.Spec PyProof.Rows L2
section
variable {K : PySem.W.Frag} {H : Hp} {t : Addr} {d : PyData} {ds : List PyData}
theorem seq_dp {x : V} (h : Dp K H x d) (e : d = .list ds ∨ d = .tuple ds) : ∃ t zs, x = .ref t ∧ (SqL K H t zs ∨ SqT K H t zs) ∧ DpAll K H zs ds := by
  rcases e with rfl | rfl
  · cases h with
    | lst h a => exact ⟨_, _, rfl, .inl h, a⟩
  · cases h with
    | tup h a => exact ⟨_, _, rfl, .inr h, a⟩
theorem len_dp (h : Dp K H (.ref t) d) (e : d = .list ds ∨ d = .tuple ds) : LenV K (.ref t) H ds.length := by
  rcases e with rfl | rfl
  · cases h with
    | lst h a => exact .inl ⟨_, h, (dpAll_len a).symm⟩
  · cases h with
    | tup h a => exact .inr ⟨_, h, (dpAll_len a).symm⟩
theorem Th.parts {m C D W : Nat} (h : Th m C D W d) (e : d = .list ds ∨ d = .tuple ds) : Ths m (C - 3) (D - 1) W ds ∧ ds.length ≤ W ∧ 3 ≤ C ∧ 1 ≤ D := by
  rcases e with rfl | rfl
  · exact h.ofList
  · exact h.ofTuple
end
theorem sm_in {H H' : Hp} {S : List Addr} {x : Addr} {o : HO} (s : Sm S H H') (h : off H S x = some o) : off H' S x = some o := s x o h
end Pot
namespace Pot
open PySem PySem.Spec PyProof.Rows L2
theorem costAll_set_eq : ∀ {ds : List PyData} {i : Nat} {x y : PyData}, ds[i]? = some y → costAll (ds.set i x) + costAll.cost y = costAll ds + costAll.cost x
  | [], _, _, _, h => by simp at h
  | z :: zs, 0, x, y, h => by
    have e : z = y := by simpa using h
    subst e
    show costAll.cost x + 2 + costAll zs + costAll.cost z = costAll.cost z + 2 + costAll zs + costAll.cost x
    omega
  | z :: zs, i + 1, x, y, h => by
    have := costAll_set_eq (ds := zs) (i := i) (x := x) (y := y) (by simpa using h)
    show costAll.cost z + 2 + costAll (zs.set i x) + costAll.cost y = costAll.cost z + 2 + costAll zs + costAll.cost x
    omega
theorem codes_ofString (s : String) : ∀ c ∈ (Str.ofString s).cps.toList, c < 1114112 := by
  intro c hc
  rw [Str.ofString_eq_toList] at hc
  have : c ∈ s.toList.map Char.toNat := by simpa using hc
  obtain ⟨ch, _, rfl⟩ := List.mem_map.mp this
  have v := ch.valid
  have e : ch.toNat = ch.val.toNat := rfl
  rcases v with v | ⟨_, v⟩
  · have : ch.val.toNat < 0xD800 := v
    omega
  · have : ch.val.toNat < 0x110000 := v
    omega
theorem th_text {i : Int} (h : i.natAbs ≤ 2000000) {m : Nat} : Th m 19212 0 0 (.str (toString i)) := by
  have l : (Str.ofString (toString i)).length ≤ 1921 := PyProof.Rows.int_text_len_1921 (log_small' h)
  exact ⟨⟨by omega, codes_ofString _⟩, by show 10 * (Str.ofString (toString i)).length + 2 ≤ 19212; omega, Nat.le_refl _, Nat.le_refl _⟩
end Pot

namespace Pot
open PySem PySem.Spec PyProof.Rows L2
theorem Ths.parts2 {m C E D W a b : Nat} {ds es : List PyData} (h : Ths m C D W ds) (hab : a ≤ b) (k : Ths m E D W es) : Ths m (C + E) D W (ds.take a ++ es ++ ds.drop b) := by
  have mem : ∀ d, d ∈ ds.take a ++ es ++ ds.drop b → d ∈ ds ∨ d ∈ es := fun d hd => by
    rcases List.mem_append.mp hd with z | z
    · rcases List.mem_append.mp z with y | y
      · exact .inl (List.mem_of_mem_take y)
      · exact .inr y
    · exact .inl (List.mem_of_mem_drop z)
  refine ⟨fun d hd => (mem d hd).elim (h.g d) (k.g d), ?_, fun d hd => (mem d hd).elim (h.d d) (k.d d), fun d hd => (mem d hd).elim (h.w d) (k.w d)⟩
  rw [costAll_app, costAll_app]
  have e := costAll_app (ds.take a) (ds.drop a)
  rw [List.take_append_drop] at e
  have e2 : ds.drop b = (ds.drop a).drop (b - a) := by rw [List.drop_drop]; congr 1; omega
  have e3 := costAll_drop (b - a) (ds.drop a)
  rw [← e2] at e3
  have := h.c
  have := k.c
  omega
end Pot

namespace Pot
open PySem PySem.Spec PyProof.Rows L2
theorem nodup_le {α : Type} [BEq α] [LawfulBEq α] : ∀ {ks l : List α}, ks.Nodup → (∀ k ∈ ks, k ∈ l) → ks.length ≤ l.length
  | [], _, _, _ => Nat.zero_le _
  | k :: ks, l, h, s => by
    have hk := s k List.mem_cons_self
    have h2 := (List.nodup_cons.mp h)
    have := nodup_le (ks := ks) (l := l.erase k) h2.2 fun x hx => by
      have ne : x ≠ k := fun e => h2.1 (e ▸ hx)
      exact (List.mem_erase_of_ne ne).mpr (s x (List.mem_cons_of_mem _ hx))
    rw [List.length_erase_of_mem hk] at this
    have : 0 < l.length := List.length_pos_of_mem hk
    simp only [List.length_cons]
    omega
section
variable {X : Cx} {K : PySem.W.Frag}
theorem ko_notIn (h : X.K = K := by rfl) : OpR X (compareOp .NotIn) (rIn K true) := h ▸ op_notIn_seq
/-- set(xs) of ints: how many members it has -/
def rSetLj (K : PySem.W.Frag) (w : World) : List V → Hp → VK → Prop := fun xs H Q => ∃ (a : Addr) (ns : List Int), xs = [V.ref a] ∧ SqL K H a (ns.map V.int) ∧ ns.length ≤ 4000 ∧
  ∀ (p : Addr) (ks : List Int), H p = none → ks.Nodup → (∀ k, k ∈ ks ↔ k ∈ ns) → Q (.ref p) (upd H p (SetO w p (fun k => decide (k ∈ ns)) ks.length))
theorem cr_setLj (hc : X.calm = true) : CallR X (.type "set") (rSetLj X.K X.w) := by
  intro pins s σ H vs us Q I r h
  obtain ⟨a, ns, rfl, hS, hl, q⟩ := h
  rw [Vals.ref1 r]
  obtain ⟨its, rv, pl, hz⟩ := I.list hS
  refine call_set_li ns (I.ok.hd hc) pl.isList (by simpa using Vals.ints rv) (by unfold scanBound; omega) fun s' f => ?_
  obtain ⟨h', tk, c, rfl, R, hcn, k⟩ := f
  have hn : H s.heap.objs.size = none := I.hok.fresh (Nat.le_refl _)
  have J : Inv X pins σ (upd H s.heap.objs.size (SetO X.w s.heap.objs.size (fun k => decide (k ∈ ns)) c)) { s with heap := h', toks := tk } := I.laid (t' := tk) k (Nat.le_refl _) (setO_new R)
  obtain ⟨o, es, ep, t, _, _, _, _, nod, mem, _, _, size, _⟩ := R
  have q2 := q s.heap.objs.size (es.toList.map keyOf) hn nod fun k => by rw [← mem k, decide_eq_true_eq]
  rw [List.length_map, Array.length_toList, size] at q2
  exact ⟨.ref s.heap.objs.size, _, J, rfl, q2⟩
theorem kc_setLj {w : World} (hc : X.calm = true := by rfl) (h : X.K = K := by rfl) (hw : X.w = w := by rfl) : CallR X (.type "set") (rSetLj K w) := by subst h; subst hw; exact cr_setLj hc
end
end Pot

namespace Pot
open PySem PySem.Spec PyProof.Rows L2
/-! ### kinds of data -/
def tyD : PyData → String
  | .none => "NoneType"
  | .bool _ => "bool"
  | .int _ => "int"
  | .str _ => "str"
  | .list _ => "list"
  | .tuple _ => "tuple"
  | .dict _ => "dict"
def isIntD : PyData → Bool
  | .int _ => true
  | .bool _ => true
  | _ => false
def isBoolD : PyData → Bool
  | .bool _ => true
  | _ => false
def isStrD : PyData → Bool
  | .str _ => true
  | _ => false
def isListD : PyData → Bool
  | .list _ => true
  | _ => false
def isTupD : PyData → Bool
  | .tuple _ => true
  | _ => false
section
variable {K : PySem.W.Frag} {H : Hp} {x : V} {d : PyData} {Q : VK}
theorem tyx_dp (h : Dp K H x d) : TyX K H x (.type (tyD d)) := by
  cases h with
  | non => exact .base .non
  | bl b => exact .base (.bl b)
  | int i => exact .base (.int i)
  | str z => exact .base (.str z)
  | lst h _ => exact tyx_list h
  | tup h _ => exact tyx_tup h
theorem kit_int (h : Dp K H x d) : PySem.W.kitOne K (.type (tyD d)) (.type "int") = some (isIntD d) := by
  cases h with
  | non => exact kit_ty (show kitB "NoneType" "int" = some false by decide +kernel)
  | bl _ => exact kit_ty (show kitB "bool" "int" = some true by decide +kernel)
  | int _ => exact kit_ty (show kitB "int" "int" = some true by decide +kernel)
  | str _ => exact kit_ty (show kitB "str" "int" = some false by decide +kernel)
  | lst _ _ => exact kit_ty (show kitB "list" "int" = some false by decide +kernel)
  | tup _ _ => exact kit_ty (show kitB "tuple" "int" = some false by decide +kernel)
theorem kit_bool (h : Dp K H x d) : PySem.W.kitOne K (.type (tyD d)) (.type "bool") = some (isBoolD d) := by
  cases h with
  | non => exact kit_ty (show kitB "NoneType" "bool" = some false by decide +kernel)
  | bl _ => exact kit_ty (show kitB "bool" "bool" = some true by decide +kernel)
  | int _ => exact kit_ty (show kitB "int" "bool" = some false by decide +kernel)
  | str _ => exact kit_ty (show kitB "str" "bool" = some false by decide +kernel)
  | lst _ _ => exact kit_ty (show kitB "list" "bool" = some false by decide +kernel)
  | tup _ _ => exact kit_ty (show kitB "tuple" "bool" = some false by decide +kernel)
theorem kit_str (h : Dp K H x d) : PySem.W.kitOne K (.type (tyD d)) (.type "str") = some (isStrD d) := by
  cases h with
  | non => exact kit_ty (show kitB "NoneType" "str" = some false by decide +kernel)
  | bl _ => exact kit_ty (show kitB "bool" "str" = some false by decide +kernel)
  | int _ => exact kit_ty (show kitB "int" "str" = some false by decide +kernel)
  | str _ => exact kit_ty (show kitB "str" "str" = some true by decide +kernel)
  | lst _ _ => exact kit_ty (show kitB "list" "str" = some false by decide +kernel)
  | tup _ _ => exact kit_ty (show kitB "tuple" "str" = some false by decide +kernel)
theorem kit_list (h : Dp K H x d) : PySem.W.kitOne K (.type (tyD d)) (.type "list") = some (isListD d) := by
  cases h with
  | non => exact kit_ty (show kitB "NoneType" "list" = some false by decide +kernel)
  | bl _ => exact kit_ty (show kitB "bool" "list" = some false by decide +kernel)
  | int _ => exact kit_ty (show kitB "int" "list" = some false by decide +kernel)
  | str _ => exact kit_ty (show kitB "str" "list" = some false by decide +kernel)
  | lst _ _ => exact kit_ty (show kitB "list" "list" = some true by decide +kernel)
  | tup _ _ => exact kit_ty (show kitB "tuple" "list" = some false by decide +kernel)
theorem kit_tup (h : Dp K H x d) : PySem.W.kitOne K (.type (tyD d)) (.type "tuple") = some (isTupD d) := by
  cases h with
  | non => exact kit_ty (show kitB "NoneType" "tuple" = some false by decide +kernel)
  | bl _ => exact kit_ty (show kitB "bool" "tuple" = some false by decide +kernel)
  | int _ => exact kit_ty (show kitB "int" "tuple" = some false by decide +kernel)
  | str _ => exact kit_ty (show kitB "str" "tuple" = some false by decide +kernel)
  | lst _ _ => exact kit_ty (show kitB "list" "tuple" = some false by decide +kernel)
  | tup _ _ => exact kit_ty (show kitB "tuple" "tuple" = some true by decide +kernel)
theorem kit_lt (h : Dp K H x d) : PySem.W.kitAny K (.type (tyD d)) [.type "list", .type "tuple"] = some (isListD d || isTupD d) := by
  cases h <;> rfl
end
/-! ### numbers within bounds -/
def numD (lo hi : Int) : PyData → Bool
  | .int i => decide (lo ≤ i) && decide (i ≤ hi)
  | _ => false
def toI : PyData → Int
  | .int i => i
  | _ => 0
theorem numD_int {lo hi : Int} : ∀ {d : PyData}, numD lo hi d = true → d = .int (toI d) ∧ lo ≤ toI d ∧ toI d ≤ hi
  | .int i, h => by
    obtain ⟨h1, h2⟩ := Bool.and_eq_true_iff.mp (show (decide (lo ≤ i) && decide (i ≤ hi)) = true from h)
    exact ⟨rfl, of_decide_eq_true h1, of_decide_eq_true h2⟩
/-- rising -/
def risI : List Int → Bool
  | a :: b :: r => decide (a < b) && risI (b :: r)
  | _ => true
def risD (lo hi : Int) : PyData → Bool
  | .list ds => ds.all (numD lo hi) && risI (ds.map toI)
  | _ => false
theorem risI_pair : ∀ {ns : List Int}, risI ns = true ↔ ns.Pairwise (· < ·)
  | [] => by simp [risI]
  | [a] => by simp [risI]
  | a :: b :: r => by
    have ih := risI_pair (ns := b :: r)
    show (decide (a < b) && risI (b :: r)) = true ↔ _
    rw [Bool.and_eq_true_iff, decide_eq_true_eq, ih]
    constructor
    · rintro ⟨h1, h2⟩
      refine List.pairwise_cons.mpr ⟨fun x hx => ?_, h2⟩
      rcases List.mem_cons.mp hx with e | e
      · rw [e]; exact h1
      · exact Int.lt_trans h1 ((List.pairwise_cons.mp h2).1 x e)
    · intro h
      obtain ⟨h1, h2⟩ := List.pairwise_cons.mp h
      exact ⟨h1 b List.mem_cons_self, h2⟩
theorem nums_of {lo hi : Int} {ds : List PyData} (h : ds.all (numD lo hi) = true) : ds = (ds.map toI).map PyData.int ∧ ∀ k ∈ ds.map toI, lo ≤ k ∧ k ≤ hi := by
  rw [List.all_eq_true] at h
  constructor
  · rw [List.map_map]
    conv => lhs; rw [← List.map_id ds]
    exact List.map_congr_left fun d hd => (numD_int (h d hd)).1
  · intro k hk
    obtain ⟨d, hd, rfl⟩ := List.mem_map.mp hk
    exact (numD_int (h d hd)).2
section
variable {K : PySem.W.Frag} {H : Hp}
theorem dp_intsV : ∀ {xs : List V} {ns : List Int}, DpAll K H xs (ns.map PyData.int) → xs = ns.map V.int
  | [], [], _ => rfl
  | [], _ :: _, h => by cases h
  | _ :: _, [], h => by cases h
  | x :: xs, n :: ns, h => by
    cases h with
    | cons h t => cases h; rw [dp_intsV t]; rfl
end
/-- of a row that rises just the same: a row in which all stand in order, none twice -/
theorem sorted_uniq : ∀ {xs ys : List Int}, xs.Pairwise (· < ·) → ys.Pairwise (· < ·) → (∀ k, k ∈ xs ↔ k ∈ ys) → xs = ys
  | [], [], _, _, _ => rfl
  | [], y :: ys, _, _, h => by have := (h y).mpr List.mem_cons_self; simp at this
  | x :: xs, [], _, _, h => by have := (h x).mp List.mem_cons_self; simp at this
  | x :: xs, y :: ys, h1, h2, h => by
    rw [List.pairwise_cons] at h1 h2
    have e : x = y := by
      rcases List.mem_cons.mp ((h x).mp List.mem_cons_self) with e | e
      · exact e
      · rcases List.mem_cons.mp ((h y).mpr List.mem_cons_self) with e2 | e2
        · exact e2.symm
        · have := h2.1 x e; have := h1.1 y e2; omega
    subst e
    have : xs = ys := sorted_uniq h1.2 h2.2 fun k => by
      constructor
      · intro hk
        rcases List.mem_cons.mp ((h k).mp (List.mem_cons_of_mem _ hk)) with e | e
        · have := h1.1 k hk; omega
        · exact e
      · intro hk
        rcases List.mem_cons.mp ((h k).mpr (List.mem_cons_of_mem _ hk)) with e | e
        · have := h2.1 k hk; omega
        · exact e
    rw [this]
theorem eqv_ints : ∀ xs ys : List Int, PyData.eqv (.list (xs.map PyData.int)) (.list (ys.map PyData.int)) = decide (xs = ys)
  | [], [] => rfl
  | [], _ :: _ => rfl
  | _ :: _, [] => rfl
  | x :: xs, y :: ys => by
    have ih := eqv_ints xs ys
    show (PyData.eqv (.int x) (.int y) && PyData.eqvAll (xs.map PyData.int) (ys.map PyData.int)) = _
    rw [show PyData.eqvAll (xs.map PyData.int) (ys.map PyData.int) = decide (xs = ys) from ih]
    show ((x == y) && _) = _
    by_cases h : x = y
    · subst h; simp
    · simp [h]
/-- thing == sorted(set(thing)): just where it rises -/
theorem eq_sorted {ns zs : List Int} (h : zs.Pairwise (· < ·)) (m : ∀ k, k ∈ zs ↔ k ∈ ns) : decide (ns = zs) = risI ns := by
  by_cases e : ns = zs
  · rw [decide_eq_true e, e]; exact (risI_pair.mpr h).symm
  · rw [decide_eq_false e]
    cases hr : risI ns with
    | false => rfl
    | true => exact absurd (sorted_uniq (risI_pair.mp hr) h fun k => (m k).symm) e
theorem nodup_60 {ks : List Int} (h : ks.Nodup) (b : ∀ k ∈ ks, 0 ≤ k ∧ k ≤ 60) : ks.length < 64 := by
  have := nodup_le (l := (List.range 61).map fun (i : Nat) => (i : Int)) h fun k hk => by
    obtain ⟨h0, h1⟩ := b k hk
    exact List.mem_map.mpr ⟨k.toNat, List.mem_range.mpr (by omega), by omega⟩
  rw [List.length_map, List.length_range] at this
  omega
end Pot
namespace Pot
open PySem PySem.Spec PyProof.Rows L2
/-! ### a comprehension that changes nothing that stood: out i is what is told up to turn i -/
def PvL (H1 : Hp) (D : Addr) (out : Nat → List V) (i : Nat) (H2 : Hp) : Prop := Same H1 H2 ∧ H2 D = some (.lst (out i))
section
variable {H1 H2 H3 : Hp} {D : Addr} {out : Nat → List V} {i : Nat} {y : V}
theorem pv_start (nD : H1 D = none) (e : out 0 = []) : PvL H1 D out 0 (upd H1 D (.lst [])) := ⟨same_upd nD, by rw [e]; exact upd_same⟩
theorem pv_put (nD : H1 D = none) (p : PvL H1 D out i H2) (s : Same H2 H3) (e : out (i + 1) = out i ++ [y]) (l : (out i).length < sizeLine) : ∃ acc, H3 D = some (.lst acc) ∧ acc.length < sizeLine ∧ PvL H1 D out (i + 1) (upd H3 D (.lst (acc ++ [y]))) :=
  ⟨out i, s _ _ p.2, l, same_put (p.1.trans s) nD, by rw [e]; exact upd_same⟩
theorem pv_skip (p : PvL H1 D out i H2) (s : Same H2 H3) (e : out (i + 1) = out i) : PvL H1 D out (i + 1) H3 := ⟨p.1.trans s, by rw [e]; exact s _ _ p.2⟩
end
theorem take_map {α : Type} (f : α → V) {l : List α} {i : Nat} {x : α} (h : l[i]? = some x) : (l.take (i + 1)).map f = (l.take i).map f ++ [f x] := by
  rw [List.take_add_one, h, List.map_append]; rfl
theorem take_len_lt {α : Type} {f : α → V} {l : List α} {i : Nat} (h : i < 100000) : ((l.take i).map f).length < sizeLine := by
  rw [List.length_map, List.length_take, sizeLine_eq]; omega
theorem take_len_le {α : Type} {f : α → V} {l : List α} {i : Nat} (h : l.length < 100000) : ((l.take i).map f).length < sizeLine := by
  rw [List.length_map, List.length_take, sizeLine_eq]; omega
/-- each below the next -/
def rb : List Int → List Bool
  | a :: b :: r => decide (a < b) :: rb (b :: r)
  | _ => []
theorem rb_all : ∀ ns : List Int, (rb ns).all id = risI ns
  | [] => rfl
  | [_] => rfl
  | a :: b :: r => by show (decide (a < b) && (rb (b :: r)).all id) = _; rw [rb_all (b :: r)]; rfl
theorem rb_len : ∀ ns : List Int, (rb ns).length = ns.length - 1
  | [] => rfl
  | [_] => rfl
  | a :: b :: r => by show (rb (b :: r)).length + 1 = _; rw [rb_len (b :: r)]; simp
theorem rb_at : ∀ {ns : List Int} {i : Nat} {x y : Int}, ns[i]? = some x → ns[i + 1]? = some y → (rb ns)[i]? = some (decide (x < y))
  | [], _, _, _, h, _ => by simp at h
  | [_], i, _, _, _, h => by simp at h
  | a :: b :: r, 0, x, y, h, k => by
    have e1 : a = x := by simpa using h
    have e2 : b = y := by simpa using k
    subst e1 e2; rfl
  | a :: b :: r, i + 1, x, y, h, k => rb_at (ns := b :: r) (i := i) (by simpa using h) (by simpa using k)
/-- what is told of each of some data -/
theorem all_map {ds : List PyData} {f : PyData → Bool} : (ds.map f).all id = ds.all f := by
  rw [List.all_map]; rfl
end Pot
namespace Pot
open PySem PySem.Spec PyProof.Rows L2
theorem pv_end {H1 H2 : Hp} {D : Addr} {out : Nat → List V} {n : Nat} {zs : List V} (p : PvL H1 D out n H2) (e : out n = zs) : Same H1 H2 ∧ H2 D = some (.lst zs) := ⟨p.1, by rw [← e]; exact p.2⟩
theorem take_all {α : Type} {f : α → V} {l : List α} {n : Nat} (h : l.length ≤ n) : (l.take n).map f = l.map f := by rw [List.take_of_length_le h]
end Pot

namespace Pot
open PySem PySem.Spec PyProof.Rows L2
/-! ### palettes as data -/
abbrev Col := Str × Int × Int × Int
abbrev Wsh := Str × Str × Option Int
def colD (c : Col) : PyData := .tuple [.str c.1, .int c.2.1, .int c.2.2.1, .int c.2.2.2]
def optD : Option Int → PyData
  | none => .none
  | some i => .int i
def washD (r : Wsh) : PyData := .tuple [.str r.1, .str r.2.1, optD r.2.2]
def palD (cs : List Col) (ws : List Wsh) : PyData := .tuple [.tuple (cs.map colD), .tuple (ws.map washD)]
def optV : Option Int → V
  | none => .non
  | some i => .int i
def namV : Option Str → V
  | none => .non
  | some z => .str z
/-- the washing between two: the first row that tells -/
def washF (ws : List Wsh) (a : Option Str) (b : Str) : Option Int := match ws with
  | [] => some 0
  | r :: ws => if some r.1 = a ∧ r.2.1 = b then r.2.2 else washF ws a b
/-- the washing of a row -/
def sumF (ws : List Wsh) : Option Str → List Str → Int → Option Int
  | _, [], h => some h
  | a, b :: r, h => match washF ws a b with
    | none => none
    | some k => sumF ws (some b) r (h + k)
section
variable {K : PySem.W.Frag} {H : Hp}
theorem dp_tup {v : V} {ds : List PyData} (h : Dp K H v (.tuple ds)) : ∃ a xs, v = .ref a ∧ SqT K H a xs ∧ DpAll K H xs ds := by
  cases h with
  | tup h a => exact ⟨_, _, rfl, h, a⟩
theorem dp_lst {v : V} {ds : List PyData} (h : Dp K H v (.list ds)) : ∃ a xs, v = .ref a ∧ SqL K H a xs ∧ DpAll K H xs ds := by
  cases h with
  | lst h a => exact ⟨_, _, rfl, h, a⟩
theorem dp_str {v : V} {z : Str} (h : Dp K H v (.str z)) : v = .str z := by cases h; rfl
theorem dp_int {v : V} {z : Int} (h : Dp K H v (.int z)) : v = .int z := by cases h; rfl
theorem dp_opt {v : V} : ∀ {z : Option Int}, Dp K H v (optD z) → v = optV z
  | none, h => by cases h; rfl
  | some i, h => by cases h; rfl
theorem opt_dp : ∀ (z : Option Int), Dp K H (optV z) (optD z)
  | none => .non
  | some i => .int i
theorem dp_two {xs : List V} {d e : PyData} (h : DpAll K H xs [d, e]) : ∃ x y, xs = [x, y] ∧ Dp K H x d ∧ Dp K H y e := by
  cases h with
  | cons h1 t => cases t with
    | cons h2 t => cases t; exact ⟨_, _, rfl, h1, h2⟩
theorem dp_three {xs : List V} {d e f : PyData} (h : DpAll K H xs [d, e, f]) : ∃ x y z, xs = [x, y, z] ∧ Dp K H x d ∧ Dp K H y e ∧ Dp K H z f := by
  cases h with
  | cons h1 t => obtain ⟨y, z, rfl, h2, h3⟩ := dp_two t; exact ⟨_, _, _, rfl, h1, h2, h3⟩
theorem dp_four {xs : List V} {d e f g : PyData} (h : DpAll K H xs [d, e, f, g]) : ∃ x y z u, xs = [x, y, z, u] ∧ Dp K H x d ∧ Dp K H y e ∧ Dp K H z f ∧ Dp K H u g := by
  cases h with
  | cons h1 t => obtain ⟨y, z, u, rfl, h2, h3, h4⟩ := dp_three t; exact ⟨_, _, _, _, rfl, h1, h2, h3, h4⟩
/-- a colour's tuple -/
theorem col_dp {v : V} {c : Col} (h : Dp K H v (colD c)) : ∃ a, v = .ref a ∧ SqT K H a [.str c.1, .int c.2.1, .int c.2.2.1, .int c.2.2.2] := by
  obtain ⟨a, xs, rfl, hs, ha⟩ := dp_tup h
  obtain ⟨x, y, z, u, rfl, h1, h2, h3, h4⟩ := dp_four ha
  rw [dp_str h1, dp_int h2, dp_int h3, dp_int h4] at hs
  exact ⟨a, rfl, hs⟩
theorem wash_dp {v : V} {r : Wsh} (h : Dp K H v (washD r)) : ∃ a, v = .ref a ∧ SqT K H a [.str r.1, .str r.2.1, optV r.2.2] := by
  obtain ⟨a, xs, rfl, hs, ha⟩ := dp_tup h
  obtain ⟨x, y, z, rfl, h1, h2, h3⟩ := dp_three ha
  rw [dp_str h1, dp_str h2, dp_opt h3] at hs
  exact ⟨a, rfl, hs⟩
/-- a palette in the heap -/
theorem pal_dp {v : V} {cs : List Col} {ws : List Wsh} (h : Dp K H v (palD cs ws)) :
    ∃ p c w xs ys, v = .ref p ∧ SqT K H p [.ref c, .ref w] ∧ SqT K H c xs ∧ DpAll K H xs (cs.map colD) ∧ SqT K H w ys ∧ DpAll K H ys (ws.map washD) := by
  obtain ⟨p, zs, rfl, hp, hz⟩ := dp_tup h
  obtain ⟨x, y, rfl, h1, h2⟩ := dp_two hz
  obtain ⟨c, xs, rfl, hc, hx⟩ := dp_tup h1
  obtain ⟨w, ys, rfl, hw, hy⟩ := dp_tup h2
  exact ⟨p, c, w, xs, ys, rfl, hp, hc, hx, hw, hy⟩
theorem dpAll_map_at {α : Type} {f : α → PyData} {xs : List V} {l : List α} {i : Nat} {x : V} (h : DpAll K H xs (l.map f)) (e : xs[i]? = some x) : ∃ y, l[i]? = some y ∧ Dp K H x (f y) := by
  obtain ⟨d, g, p⟩ := dpAll_at h e
  rw [List.getElem?_map] at g
  obtain ⟨y, hy, rfl⟩ := Option.map_eq_some_iff.mp g
  exact ⟨y, hy, p⟩
theorem dpAll_map_len {α : Type} {f : α → PyData} {xs : List V} {l : List α} (h : DpAll K H xs (l.map f)) : xs.length = l.length := by
  rw [dpAll_len h, List.length_map]
end
theorem decS {a b : Str} : decide (V.str a = V.str b) = decide (a = b) := by
  by_cases h : a = b
  · subst h; rw [decide_eq_true rfl, decide_eq_true rfl]
  · rw [decide_eq_false h, decide_eq_false fun z => h (V.str.inj z)]
/-- behind rows that don't tell -/
theorem washF_skip {a : Option Str} {b : Str} : ∀ {ws : List Wsh} {i : Nat}, (∀ j r, j < i → ws[j]? = some r → ¬ (some r.1 = a ∧ r.2.1 = b)) → washF ws a b = washF (ws.drop i) a b
  | ws, 0, _ => rfl
  | [], i + 1, _ => rfl
  | r :: ws, i + 1, h => by
    show (if some r.1 = a ∧ r.2.1 = b then r.2.2 else washF ws a b) = washF (ws.drop i) a b
    rw [if_neg (h 0 r (Nat.succ_pos _) rfl)]
    exact washF_skip (a := a) (b := b) (ws := ws) (i := i) fun j q hj e => h (j + 1) q (Nat.succ_lt_succ hj) e
theorem washF_at {a : Option Str} {b : Str} {ws : List Wsh} {i : Nat} {r : Wsh} (h : ∀ j r, j < i → ws[j]? = some r → ¬ (some r.1 = a ∧ r.2.1 = b)) (e : ws[i]? = some r) (hr : some r.1 = a ∧ r.2.1 = b) : washF ws a b = r.2.2 := by
  rw [washF_skip h, List.drop_eq_getElem_cons (List.getElem?_eq_some_iff.mp e).1, (List.getElem?_eq_some_iff.mp e).2]
  unfold washF
  rw [if_pos hr]
theorem washF_none {a : Option Str} {b : Str} {ws : List Wsh} (h : ∀ j r, j < ws.length → ws[j]? = some r → ¬ (some r.1 = a ∧ r.2.1 = b)) : washF ws a b = some 0 := by
  rw [washF_skip h, List.drop_length]
  rfl
/-! ### data without lists stays while the law draws -/
def noLAll : List PyData → Prop
  | [] => True
  | x :: xs => noL x ∧ noLAll xs
where noL : PyData → Prop
  | .list _ => False
  | .dict _ => False
  | .tuple xs => noLAll xs
  | _ => True
section
variable {K : PySem.W.Frag}
theorem kp_tup {d c : Addr} {H H' : Hp} {n : Nat} {a : Addr} {xs : List V} (st : StAt H d c n) (k : Kp d c H H') (h : SqT K H a xs) : SqT K H' a xs := by
  obtain ⟨_, ys, t, h1, h2, _⟩ := st
  have go : ∀ o, (H a = some (.tup xs) ∨ H a = some (.frz o (.tup xs))) → a ≠ d ∧ a ≠ c := fun o e => by
    constructor
    · intro z; subst z; rw [h1] at e; rcases e with e | e <;> cases e
    · intro z; subst z; rw [h2] at e; rcases e with e | e <;> cases e
  rcases h with (h | ⟨o, h⟩) | h
  · have g := go ⟨.none, none, .fields #[], #[]⟩ (.inl h); exact .inl (.inl (k _ _ g.1 g.2 h))
  · have g := go o (.inr h); exact .inl (.inr ⟨o, k _ _ g.1 g.2 h⟩)
  · exact .inr h
mutual
theorem dp_kp {d c : Addr} {H H' : Hp} {n : Nat} (st : StAt H d c n) (k : Kp d c H H') : ∀ {v : V} {e : PyData}, noLAll.noL e → Dp K H v e → Dp K H' v e
  | _, _, _, .non => .non
  | _, _, _, .bl b => .bl b
  | _, _, _, .int i => .int i
  | _, _, _, .str x => .str x
  | _, _, h, .lst _ _ => h.elim
  | _, _, h, .tup s a => .tup (kp_tup st k s) (dpAll_kp st k h a)
theorem dpAll_kp {d c : Addr} {H H' : Hp} {n : Nat} (st : StAt H d c n) (k : Kp d c H H') : ∀ {vs : List V} {es : List PyData}, noLAll es → DpAll K H vs es → DpAll K H' vs es
  | _, _, _, .nil => .nil
  | _, _, h, .cons x t => .cons (dp_kp st k h.1 x) (dpAll_kp st k h.2 t)
end
mutual
theorem dp_go {H H' : Hp} (go : ∀ a us, SqT K H a us → SqT K H' a us) : ∀ {v : V} {e : PyData}, noLAll.noL e → Dp K H v e → Dp K H' v e
  | _, _, _, .non => .non
  | _, _, _, .bl b => .bl b
  | _, _, _, .int i => .int i
  | _, _, _, .str x => .str x
  | _, _, h, .lst _ _ => h.elim
  | _, _, h, .tup s a => .tup (go _ _ s) (dpAll_go go h a)
theorem dpAll_go {H H' : Hp} (go : ∀ a us, SqT K H a us → SqT K H' a us) : ∀ {vs : List V} {es : List PyData}, noLAll es → DpAll K H vs es → DpAll K H' vs es
  | _, _, _, .nil => .nil
  | _, _, h, .cons x t => .cons (dp_go go h.1 x) (dpAll_go go h.2 t)
end
theorem noL_map {α : Type} {f : α → PyData} (h : ∀ x, noLAll.noL (f x)) : ∀ l : List α, noLAll (l.map f)
  | [] => trivial
  | x :: r => ⟨h x, noL_map h r⟩
theorem noL_col (c : Col) : noLAll.noL (colD c) := ⟨trivial, trivial, trivial, trivial, trivial⟩
theorem noL_wash (r : Wsh) : noLAll.noL (washD r) := ⟨trivial, trivial, by cases r.2.2 <;> trivial, trivial⟩
theorem noL_pal (cs : List Col) (ws : List Wsh) : noLAll.noL (palD cs ws) := ⟨noL_map noL_col cs, noL_map noL_wash ws, trivial⟩
theorem dpAll_app {H : Hp} : ∀ {xs ys : List V} {ds es : List PyData}, DpAll K H xs ds → DpAll K H ys es → DpAll K H (xs ++ ys) (ds ++ es)
  | _, _, _, _, .nil, h => h
  | _, _, _, _, .cons h t, h2 => .cons h (dpAll_app t h2)
end
/-! ### how long a palette's text may be -/
structure PalOk (cs : List Col) (ws : List Wsh) : Prop where
  nc : cs.length ≤ 20
  nw : ws.length ≤ 60
  cn : ∀ c ∈ cs, c.1.length ≤ 9 ∧ (∀ x ∈ c.1.cps.toList, x < 1114112) ∧ c.2.1.natAbs < 10000 ∧ c.2.2.1.natAbs < 10000 ∧ c.2.2.2.natAbs < 10000
  wn : ∀ r ∈ ws, (r.1.length ≤ 9 ∧ ∀ x ∈ r.1.cps.toList, x < 1114112) ∧ (r.2.1.length ≤ 9 ∧ ∀ x ∈ r.2.1.cps.toList, x < 1114112) ∧ ∀ i, r.2.2 = some i → i.natAbs < 10000
theorem PalOk.addC {cs : List Col} {ws : List Wsh} {c : Col} (h : PalOk cs ws) (n : cs.length < 20) (ok : c.1.length ≤ 9 ∧ (∀ x ∈ c.1.cps.toList, x < 1114112) ∧ c.2.1.natAbs < 10000 ∧ c.2.2.1.natAbs < 10000 ∧ c.2.2.2.natAbs < 10000) : PalOk (cs ++ [c]) ws :=
  ⟨by rw [List.length_append]; exact n, h.nw, fun x hx => (List.mem_append.mp hx).elim (h.cn x) fun z => by rw [List.mem_singleton.mp z]; exact ok, h.wn⟩
theorem PalOk.addW {cs : List Col} {ws : List Wsh} {r : Wsh} (h : PalOk cs ws) (n : ws.length < 60) (ok : (r.1.length ≤ 9 ∧ ∀ x ∈ r.1.cps.toList, x < 1114112) ∧ (r.2.1.length ≤ 9 ∧ ∀ x ∈ r.2.1.cps.toList, x < 1114112) ∧ ∀ i, r.2.2 = some i → i.natAbs < 10000) : PalOk cs (ws ++ [r]) :=
  ⟨h.nc, by rw [List.length_append]; exact n, h.cn, fun x hx => (List.mem_append.mp hx).elim (h.wn x) fun z => by rw [List.mem_singleton.mp z]; exact ok⟩
theorem log_small {i : Int} (h : i.natAbs < 10000) : i.natAbs.log2 < 1920 := by
  by_cases z : i.natAbs = 0
  · rw [z]; decide
  · have := (Nat.log2_lt z).mpr (show i.natAbs < 2 ^ 14 from Nat.lt_of_lt_of_le h (by decide))
    omega
theorem fineAll_map {α : Type} {f : α → PyData} : ∀ {l : List α}, (∀ x ∈ l, fineAll.fine (f x)) → fineAll (l.map f)
  | [], _ => trivial
  | x :: r, h => ⟨h x List.mem_cons_self, fineAll_map fun y hy => h y (List.mem_cons_of_mem _ hy)⟩
theorem costAll_map {α : Type} {f : α → PyData} {b : Nat} : ∀ {l : List α}, (∀ x ∈ l, costAll.cost (f x) ≤ b) → costAll (l.map f) ≤ l.length * (b + 2)
  | [], _ => Nat.zero_le _
  | x :: r, h => by
    have h1 := h x List.mem_cons_self
    have h2 := costAll_map (l := r) fun y hy => h y (List.mem_cons_of_mem _ hy)
    show costAll.cost (f x) + 2 + costAll (r.map f) ≤ (r.length + 1) * (b + 2)
    rw [Nat.succ_mul]
    omega
theorem depthAll_map {α : Type} {f : α → PyData} {b : Nat} : ∀ {l : List α}, (∀ x ∈ l, (f x).depth ≤ b) → PyData.depthAll (l.map f) ≤ b
  | [], _ => Nat.zero_le _
  | x :: r, h => by
    show max (f x).depth (PyData.depthAll (r.map f)) ≤ b
    exact Nat.max_le.mpr ⟨h x List.mem_cons_self, depthAll_map fun y hy => h y (List.mem_cons_of_mem _ hy)⟩
theorem fine_col {c : Col} (h : c.1.length ≤ 9 ∧ (∀ x ∈ c.1.cps.toList, x < 1114112) ∧ c.2.1.natAbs < 10000 ∧ c.2.2.1.natAbs < 10000 ∧ c.2.2.2.natAbs < 10000) : fineAll.fine (colD c) :=
  ⟨fun x hx => Nat.lt_trans (h.2.1 x hx) (by decide), log_small h.2.2.1, log_small h.2.2.2.1, log_small h.2.2.2.2, trivial⟩
theorem fine_opt {o : Option Int} (h : ∀ i, o = some i → i.natAbs < 10000) : fineAll.fine (optD o) := by
  cases o with
  | none => trivial
  | some i => exact log_small (h i rfl)
theorem pal_fine {cs : List Col} {ws : List Wsh} (h : PalOk cs ws) : fineAll.fine (palD cs ws) :=
  ⟨fineAll_map fun c hc => fine_col (h.cn c hc), fineAll_map fun r hr => ⟨fun x hx => Nat.lt_trans ((h.wn r hr).1.2 x hx) (by decide), fun x hx => Nat.lt_trans ((h.wn r hr).2.1.2 x hx) (by decide), fine_opt (h.wn r hr).2.2, trivial⟩, trivial⟩
theorem cost_opt (o : Option Int) : costAll.cost (optD o) ≤ 1921 := by
  cases o with
  | none => decide
  | some i => exact Nat.le_refl _
theorem pal_cost {cs : List Col} {ws : List Wsh} (h : PalOk cs ws) : costAll.cost (palD cs ws) ≤ 1000000 := by
  have h1 : costAll (cs.map colD) ≤ cs.length * (10000 + 2) := costAll_map fun c hc => by
    have := (h.cn c hc).1
    show (10 * c.1.length + 2) + 2 + (1921 + 2 + (1921 + 2 + (1921 + 2 + 0))) + 3 ≤ 10000
    omega
  have h2 : costAll (ws.map washD) ≤ ws.length * (10000 + 2) := costAll_map fun r hr => by
    have a := (h.wn r hr).1.1
    have b := (h.wn r hr).2.1.1
    have c := cost_opt r.2.2
    show (10 * r.1.length + 2) + 2 + ((10 * r.2.1.length + 2) + 2 + (costAll.cost (optD r.2.2) + 2 + 0)) + 3 ≤ 10000
    omega
  have h3 := Nat.mul_le_mul_right 10002 h.nc
  have h4 := Nat.mul_le_mul_right 10002 h.nw
  show (costAll (cs.map colD) + 3) + 2 + ((costAll (ws.map washD) + 3) + 2 + 0) + 3 ≤ 1000000
  omega
theorem depth_opt (o : Option Int) : (optD o).depth = 0 := by cases o <;> rfl
theorem pal_depth (cs : List Col) (ws : List Wsh) : (palD cs ws).depth ≤ 3 := by
  have h1 : PyData.depthAll (cs.map colD) ≤ 1 := depthAll_map fun c _ => by show 1 ≤ 1; decide
  have h2 : PyData.depthAll (ws.map washD) ≤ 1 := depthAll_map fun r _ => by
    show max 0 (max 0 (max (optD r.2.2).depth 0)) + 1 ≤ 1
    rw [depth_opt]
    decide
  show max (PyData.depthAll (cs.map colD) + 1) (max (PyData.depthAll (ws.map washD) + 1) 0) + 1 ≤ 3
  omega
end Pot

namespace Pot
open PySem PySem.Spec PyProof.Rows L2
/-! ### words of letters -/
/-- at most n letters a to z -/
def Wd (n : Nat) (z : Str) : Prop := z.length ≤ n ∧ ∀ c ∈ z.cps.toList, 97 ≤ c ∧ c ≤ 122
theorem Wd.mono {n m : Nat} {z : Str} (h : Wd n z) (k : n ≤ m) : Wd m z := ⟨Nat.le_trans h.1 k, h.2⟩
theorem wd_add {n m : Nat} {a b : Str} (h : Wd n a) (k : Wd m b) : Wd (n + m) (a ++ b) := by
  refine ⟨by rw [strLen_append]; exact Nat.add_le_add h.1 k.1, fun c hc => ?_⟩
  have e : (a ++ b).cps.toList = a.cps.toList ++ b.cps.toList := by
    show (a.cps ++ b.cps).toList = _
    simp
  rw [e] at hc
  exact (List.mem_append.mp hc).elim (h.2 c) (k.2 c)
def az : List Nat := [97, 98, 99, 100, 101, 102, 103, 104, 105, 106, 107, 108, 109, 110, 111, 112, 113, 114, 115, 116, 117, 118, 119, 120, 121, 122]
theorem az_cps : (Str.ofString "abcdefghijklmnopqrstuvwxyz").cps.toList = az := by decide +kernel
theorem az_at : ∀ k : Nat, k < 26 → atI az ((k : Nat) : Int) = some (97 + k) := by unfold az; decide
theorem az_ix {i : Int} (h0 : 0 ≤ i) (h1 : i < 26) : atI (Str.ofString "abcdefghijklmnopqrstuvwxyz").cps.toList i = some (97 + i.toNat) := by
  rw [az_cps]
  have h := az_at i.toNat (by omega)
  rw [show ((i.toNat : Nat) : Int) = i by omega] at h
  exact h
theorem wd_sign {c : Nat} (h0 : 97 ≤ c) (h1 : c ≤ 122) : Wd 1 ⟨#[c]⟩ := ⟨Nat.le_refl _, fun d hd => by
  have e : d = c := by simpa using hd
  subst e; exact ⟨h0, h1⟩⟩
theorem wd_letter {i : Int} (h0 : 0 ≤ i) (h1 : i < 26) : Wd 1 ⟨#[97 + i.toNat]⟩ := wd_sign (by omega) (by omega)
theorem wd_nil : Wd 0 Str.empty := ⟨Nat.le_refl _, fun c hc => by have : c ∈ ([] : List Nat) := hc; simp at this⟩
theorem wd_join : ∀ {ys : List Str}, (∀ y ∈ ys, Wd 1 y) → Wd ys.length (Str.join Str.empty ys)
  | [], _ => wd_nil
  | [x], h => h x List.mem_cons_self
  | x :: y :: r, h => by
    have ih := wd_join (ys := y :: r) fun z hz => h z (List.mem_cons_of_mem _ hz)
    show Wd _ (x ++ Str.empty ++ Str.join Str.empty (y :: r))
    have h1 := wd_add (wd_add (h x List.mem_cons_self) wd_nil) ih
    exact h1.mono (by simp only [List.length_cons]; omega)
theorem cut_mem {z : Str} {lo hi : Option Int} {c : Nat} (h : c ∈ (cutS z lo hi).cps.toList) : c ∈ z.cps.toList := by
  unfold cutS at h
  have h2 : c ∈ (z.cps.toList.drop (HT.sIx z.length 0 lo)).take (HT.sIx z.length z.length hi - HT.sIx z.length 0 lo) := by simpa using h
  exact List.mem_of_mem_drop (List.mem_of_mem_take h2)
theorem cut_len (z : Str) (lo hi : Option Int) : (cutS z lo hi).length ≤ HT.sIx z.length z.length hi - HT.sIx z.length 0 lo := by
  unfold cutS
  show (List.toArray _).size ≤ _
  rw [List.size_toArray]
  exact List.length_take_le ..
theorem wd_head {n k : Nat} {z : Str} (h : Wd n z) : Wd k (cutS z none (some (k : Int))) := by
  refine ⟨Nat.le_trans (cut_len z none (some (k : Int))) ?_, fun c hc => h.2 c (cut_mem hc)⟩
  rw [HT.sIx_nat]
  omega
theorem wd_tail {n k : Nat} {z : Str} (h : Wd n z) : Wd (z.length - k) (cutS z (some (k : Int)) none) := by
  refine ⟨Nat.le_trans (cut_len z (some (k : Int)) none) ?_, fun c hc => h.2 c (cut_mem hc)⟩
  rw [HT.sIx_nat, HT.sIx_none]
  omega
theorem wd_cut {n : Nat} {z : Str} {lo hi : Option Int} (h : Wd n z) : Wd n (cutS z lo hi) := by
  refine ⟨Nat.le_trans (cut_len z lo hi) ?_, fun c hc => h.2 c (cut_mem hc)⟩
  have := HT.sIx_le z.length z.length (Nat.le_refl _) hi
  have := h.1
  omega
theorem wd_small {n : Nat} {z : Str} (h : Wd n z) (k : n ≤ 1000) : z.length ≤ sizeLine := Nat.le_trans h.1 (Nat.le_trans k (by decide))
theorem wd_codes {n : Nat} {z : Str} (h : Wd n z) : ∀ x ∈ z.cps.toList, x < 1114112 := fun x hx => by have := (h.2 x hx).2; omega
section
variable {K : PySem.W.Frag}
theorem kp_seq {d c l : Addr} {H H' : Hp} {xs : List V} (k : Kp d c H H') (n1 : l ≠ d) (n2 : l ≠ c) (h : SqL K H l xs) : SqL K H' l xs := by
  rcases h with (h | ⟨o, h⟩) | h
  · exact .inl (.inl (k _ _ n1 n2 h))
  · exact .inl (.inr ⟨o, k _ _ n1 n2 h⟩)
  · exact .inr h
end
end Pot

namespace Pot
open PySem PySem.Spec PyProof.Rows L2
/-! ### the drawing state of two objects, told by what stands beside it -/
section
variable {H H' : Hp} {d c : Addr} {n m : Nat} {S : List Addr} {x : Addr} {o : HO}
theorem kp_sm (k : Kp d c H H') : Sm [d, c] H H' := fun x o e => by
  have nm := off_mem e
  rw [off_out nm] at e ⊢
  exact k x o (fun z => nm (by rw [z]; simp)) (fun z => nm (by rw [z]; simp)) e
theorem sm_kp (s : Sm [d, c] H H') : Kp d c H H' := fun x o h1 h2 e => sm_at s (by simp [h1, h2]) e
theorem sm_two (h1 : d ∈ S) (h2 : c ∈ S) (s : Sm [d, c] H H') : Sm S H H' := sm_mono (fun x hx => by
  rcases List.mem_cons.mp hx with e | e
  · rw [e]; exact h1
  · rw [List.mem_singleton.mp e]; exact h2) s
theorem sm2_at (s : Sm [d, c] H H') (h1 : x ≠ d) (h2 : x ≠ c) (h : H x = some o) : H' x = some o := sm_at s (by simp [h1, h2]) h
theorem st_free (s : Sm [d, c] H H') (B : StAt H' d c n) (h : H' x = none) : H x = none := (sm_kp s).free B h
theorem StAt.here (B : StAt H d c n) : H d ≠ none ∧ H c ≠ none := by
  obtain ⟨_, xs, t, h1, h2, _⟩ := B
  constructor
  · intro z; rw [h1] at z; cases z
  · intro z; rw [h2] at z; cases z
theorem Live.st (L : Live S H) (B : StAt H' d c n) (s : Sm [d, c] H H') : Live S H' := fun x hx e => by
  by_cases h1 : x = d
  · rw [h1] at e; exact B.here.1 e
  by_cases h2 : x = c
  · rw [h2] at e; exact B.here.2 e
  cases h : H x with
  | none => exact L x hx h
  | some o => rw [sm2_at s h1 h2 h] at e; cases e
theorem Live.two (B : StAt H d c n) : Live [d, c] H := fun x hx e => by
  rcases List.mem_cons.mp hx with z | z
  · rw [z] at e; exact B.here.1 e
  · rw [List.mem_singleton.mp z] at e; exact B.here.2 e
theorem StAt.nd (B : StAt H d c n) (h : H x = none) : x ≠ d := (B.ne1 h).symm
theorem StAt.nc (B : StAt H d c n) (h : H x = none) : x ≠ c := (B.ne2 h).symm
end
end Pot

namespace Pot
open PySem PySem.Spec PyProof.Rows L2
/-! ### a box of three numbers whose last is at most n -/
def Bq (H : Hp) (b : Addr) (n : Nat) : Prop := ∃ x y z : Int, H b = some (.lst [.int x, .int y, .int z]) ∧ 0 ≤ z ∧ z ≤ n
section
variable {H H' : Hp} {b p : Addr} {n m : Nat} {o : HO}
theorem Bq.bx (B : Bq H b n) : Bx H b := by
  obtain ⟨x, y, z, h, _⟩ := B
  exact ⟨x, y, z, h⟩
theorem Bq.same (B : Bq H b n) (s : Same H H') : Bq H' b n := by
  obtain ⟨x, y, z, h, h2⟩ := B
  exact ⟨x, y, z, s _ _ h, h2⟩
theorem Bq.put (B : Bq H b n) (h : H p = none) : Bq (upd H p o) b n := B.same (same_upd h)
theorem Bq.wr (B : Bq H b n) (h : p ≠ b) : Bq (upd H p o) b n := by
  obtain ⟨x, y, z, e, h2⟩ := B
  exact ⟨x, y, z, by rw [upd_ne h.symm]; exact e, h2⟩
theorem Bq.mono (B : Bq H b n) (h : n ≤ m) : Bq H b m := by
  obtain ⟨x, y, z, e, h1, h2⟩ := B
  exact ⟨x, y, z, e, h1, by omega⟩
theorem Bq.ne (B : Bq H b n) (h : H p = none) : p ≠ b := B.bx.ne h
theorem Live.q (B : Bq H b n) : Live [b] H := Live.one B.bx
end
theorem b01 (k : Bool) : -(2 ^ 64 : Int) < (if k = true then 1 else 0) ∧ (if k = true then 1 else 0) < (2 ^ 64 : Int) := by cases k <;> decide
theorem CDivW.of {i j : Int} (h0 : 0 < j) (h1 : j < 2 ^ 64) : CDivW i j := by
  refine ⟨h0, ?_⟩
  have z : j.natAbs ≠ 0 := by omega
  have := (Nat.log2_lt z).mpr (show j.natAbs < 2 ^ 64 by omega)
  omega
mutual
theorem gd_lay {m : Nat} : ∀ d : PyData, gd m d → d.canLay0 = true
  | .none, _ => rfl
  | .bool _, _ => rfl
  | .int _, _ => rfl
  | .str x, g => by
    show x.cps.all (fun c => decide (c < 0x110000)) = true
    rw [← Array.all_toList, List.all_eq_true]
    exact fun c hc => decide_eq_true (g.2 c hc)
  | .list xs, g => gdAll_lay xs g
  | .tuple xs, g => gdAll_lay xs g
  | .dict _, g => g.elim
theorem gdAll_lay {m : Nat} : ∀ ds : List PyData, gdAll m ds → PyData.canLayAll0 ds = true
  | [], _ => rfl
  | x :: xs, g => by
    show (x.canLay0 && PyData.canLayAll0 xs) = true
    rw [gd_lay x g.1, gdAll_lay xs g.2]; rfl
end
theorem Th.shaped {m C D W : Nat} {d : PyData} (h : Th m C D W d) (hD : D ≤ 64) : SeqAt.shaped d = true := by
  unfold SeqAt.shaped
  rw [gd_lay d h.g, decide_eq_true (Nat.le_trans h.d hD)]; rfl
theorem gd_shaped {m : Nat} {d : PyData} (h : gd m d) (hD : d.depth ≤ 64) : SeqAt.shaped d = true := by
  unfold SeqAt.shaped
  rw [gd_lay d h, decide_eq_true hD]; rfl
end Pot

/-! own classes: len(x) by an own __len__, x == y and x != y by an own __eq__ -/
namespace OwnR
open PySem PySem.Spec PyProof.Rows PySem.Calls
section
variable {prog : Program} {w : World} {A : Around} {E : Value → Shared → Prop} {s : Shared} {K : PySem.W.Frag} {x C f : Addr} {ox : Obj} {odd : Option Obj} {b tb : Value}
theorem len_own {Q : Value → Shared → Prop} (X : K.In s.heap) (I : PySem.W.InstAt s.heap x ox C odd) (hs : PySem.W.findIn K (.ref C) "__len__" = some (some (.ref f))) (hf : PySem.W.isFn K (.ref f) = true)
    (h : wpAny (model prog w) A.in1 (call (.ref f) [.ref x]) (fun r s₁ => ∃ (n : Int) (t : Tok), r = Value.int n t ∧ 0 ≤ n ∧ n < 2 ^ 63 ∧ Q (.int n s₁.toks) { s₁ with toks := s₁.toks + 1 }) E s) : wpAny (model prog w) A (call (.builtin "len") [.ref x]) Q E s := by
  refine call_function_entry kind_len plain_len entry_len (args_len1 _) ?_
  unfold Builtin.«len»
  refine wpAny_bind (m := oneArg "len" _) (wpAny_pure ?_)
  refine wpAny_bind (m := callSpecial? (.ref x) (Str.ofString "__len__")) (PySem.W.special_fn X I hs (beq_iff_eq.mp hf) (wpAny_mono h (fun r s' hr => ?_) fun _ _ y => y))
  obtain ⟨n, t, rfl, h0, h1, hq⟩ := hr
  refine wpAny_bind (wpAny_holding (wpAny_pure ?_))
  refine wpAny_bind (wpAny_letGo ?_)
  show wpAny _ _ (if n < 0 then _ else _) _ _ _
  rw [if_neg (by omega)]
  show wpAny _ _ (if n ≥ 2 ^ 63 then _ else _) _ _ _
  rw [if_neg (by omega)]
  exact wpAny_bind (wpAny_mkInt (wpAny_pure ⟨_, rfl, hq⟩))
theorem ifBound_ne {M : Model} {args : List Value} {Q : Option Value → Shared → Prop} {od : Option Obj} (X : K.In s.heap) (I : PySem.W.InstAt s.heap x ox C od) (hs : PySem.W.findIn K (.ref C) "__ne__" = some (some (.builtin "object.__ne__")))
    (h : wpAny M A (call (.builtin "object.__ne__") (.ref x :: args)) (fun v => Q (some v)) E s) : wpAny M A (callSpecialIfBound? (.ref x) "__ne__" args) Q E s := by
  simp only [callSpecialIfBound?, bindSpecialIfBound?]
  refine wpAny_holding (wpAny_bind (wpAny_bind (wpAny_bind (I.type.here ((PySem.W.looks_findIn X hs).here ?_)))))
  refine wpAny_bind (wpAny_askSetting (wpAny_ite ?_))
  have ends : wpAny M A (call (.builtin "object.__ne__") ([.ref x] ++ args) >>= fun v => pure (some v)) Q E s := wpAny_bind (wpAny_mono h (fun v s' h' => wpAny_pure h') fun _ _ h' => h')
  split
  · exact wpAny_bind (wpAny_of_eq (F.cmp_object.ne.bind _) (wpAny_pure (by exact ends)))
  · exact wpAny_tryCatch (wpAny_bind (wpAny_of_eq (F.cmp_object.ne.bind _) (wpAny_pure (by exact ends))))
theorem obj_ne {Q : Value → Shared → Prop} {od : Option Obj} {y : Value} (hu : A.in1.units < cLine) (X : K.In s.heap) (I : PySem.W.InstAt s.heap x ox C od) (hm : PySem.W.mroIn K C (.type "object") = some true) (he : PySem.W.findIn K (.ref C) "__eq__" = some (some (.ref f))) (hf : PySem.W.isFn K (.ref f) = true)
    (h : wpAny (model prog w) A.in1 (call (.ref f) [.ref x, y]) (fun v s' => ∃ b, v = .bool b ∧ Q (.bool (!b)) s') E s) : wpAny (model prog w) A (call (.builtin "object.__ne__") [.ref x, y]) Q E s := by
  refine wpAny_call (codeAny_call_builtin F.cmp_object.ne.plain F.cmpEntry_ne (PySem.W.check_slot F.cmpKind_ne F.cmpSplit_ne (I.type.andThen (PySem.W.looks_mroIn X hm)) (F.cmpArgs_ne _ _) ?_))
  unfold Builtin.«object.__ne__»
  refine wpAny_bind (m := slotArgs "__ne__" 1 _) (wpAny_pure ?_)
  refine wpAny_bind (m := cRoomFor _ _) (wpAny_cRoomFor hu ?_)
  refine wpAny_bind (m := callSpecialIfBound? (.ref x) (Str.ofString "__eq__") _) (PySem.W.ifBound_K X I he hf (wpAny_mono h (fun r s' hq => ?_) fun _ _ y => y))
  obtain ⟨b, rfl, q⟩ := hq
  exact wpAny_bind (m := truthy (.bool _)) (wpAny_truthy_bool (wpAny_pure q))
theorem cmp_ne {Q : Value → Shared → Prop} {od : Option Obj} {h₀ : Heap} {L : Addr} {m : Str → Option Value} (hu : A.units + 2 < cLine) (F : Fr h₀ L s.heap m) (X₀ : K.In h₀) (I : PySem.W.InstAt s.heap x ox C od) (hb : PySem.W.Looks (model prog w) s.heap (typeOf b) tb) (hn : PySem.W.notFirst K C tb = true)
    (hm : PySem.W.mroIn K C (.type "object") = some true) (hs : PySem.W.findIn K (.ref C) "__ne__" = some (some (.builtin "object.__ne__"))) (he : PySem.W.findIn K (.ref C) "__eq__" = some (some (.ref f))) (hf : PySem.W.isFn K (.ref f) = true)
    (h : wpAny (model prog w) A.in1 (call (.ref f) [.ref x, b]) (fun v s' => ∃ b, v = .bool b ∧ Q (.bool (!b)) s') E s) : wpAny (model prog w) A (richCompare .NotEq (.ref x) b) Q E s := by
  have X := X₀.keeps F.keep
  have one : wpAny (model prog w) A (tryCompare (.ref x) "__ne__" b) (fun r s' => ∃ v, r = some v ∧ Q v s') E s := by
    unfold tryCompare
    refine wpAny_bind (ifBound_ne X I hs (obj_ne (by show A.units + 1 < cLine; omega) X I hm he hf (wpAny_mono h (fun v s' hv => ?_) fun _ _ e => e)))
    obtain ⟨c, rfl, q⟩ := hv
    exact ⟨c, rfl, wpAny_pure ⟨_, rfl, q⟩⟩
  unfold richCompare
  simp only [oneThing_ref]
  refine wpAny_holding (wpAny_bind (wpAny_cRoomFor (by omega) ?_))
  refine wpAny_bind (I.type.here (wpAny_bind (hb.here ?_)))
  rw [cmpInfo_NotEq]
  dsimp only
  split
  · rename_i q
    have e : PySem.W.subIn K tb (.ref C) = some false := by
      rcases Bool.or_eq_true_iff.mp hn with e | e
      · rw [beq_iff_eq.mp e] at q; simp at q
      · exact beq_iff_eq.mp e
    refine wpAny_bind ((PySem.W.looks_subIn X e).here ?_)
    simp only [Bool.false_eq_true, if_false]
    refine wpAny_bind (wpAny_mono one (fun r s' z => ?_) fun _ _ e => e)
    obtain ⟨v, rfl, hq⟩ := z
    exact wpAny_pure hq
  · refine wpAny_bind (wpAny_pure ?_)
    simp only [Bool.false_eq_true, if_false]
    refine wpAny_bind (wpAny_mono one (fun r s' z => ?_) fun _ _ e => e)
    obtain ⟨v, rfl, hq⟩ := z
    exact wpAny_pure hq
end
end OwnR
namespace L2
open PySem PySem.Spec PyProof.Rows
section
variable {X : Cx} {CX : CXT} {C g : Addr} {n : Nat} {sp : Sp} {E : XK}
/-- len(x), x of the class at C, whose __len__ is at g -/
def rLenI (C : Addr) (sp : Sp) (E : XK) : List V → Hp → VK → Prop := fun xs H Q => ∃ (a dx : Addr) (fs : List (Str × V)), xs = [V.ref a] ∧ H a = some (.ins C dx fs) ∧ sp [.ref a] H (fun z H' => ∃ m : Nat, z = .int (m : Nat) ∧ m < 2 ^ 40 ∧ Q z H') E
theorem call_lenI (hs : PySem.W.findIn X.K (.ref C) "__len__" = some (some (.ref g))) (hf : PySem.W.isFn X.K (.ref g) = true) (F : FnR X.prog X.w X.K X.mg X.base CX n g sp) (hr : Room (n + 1) X.A) (hx : Passes CX X E) : CallR X (.builtin "len") (rLenI C sp E) := by
  intro pins s σ H xs us Q I r h
  obtain ⟨a, dx, fs, rfl, ha, q⟩ := h
  obtain ⟨u, rfl, ru⟩ := r.one
  cases (show u = Value.ref a from ru)
  obtain ⟨mA, J, _⟩ := ins_get I.hok ha
  obtain ⟨od, J, _⟩ := J.look
  have hr2 : Room n X.A.in1 := hr.in1
  refine OwnR.len_own I.kIn J hs hf (wpAny_mono (wpAny_call (SlX.run_at (us := [.ref a]) (ws := [.ref a]) F hr2 I.env0.in1 hx I (.cons rfl .nil) q)) (fun w s' z => ?_) fun _ _ x => x)
  obtain ⟨z', H', I', rz, i, ei, hi, qz⟩ := z
  subst ei
  obtain ⟨t, e⟩ := (show ∃ t, w = Value.int _ t from rz)
  cases e
  exact ⟨_, t, rfl, by omega, by omega, .int _, H', I'.tok _, ⟨_, rfl⟩, qz⟩
/-- x == y, x of the class at C, whose __eq__ is at g; y an instance, not of a class below C -/
def rEqI (K : PySem.W.Frag) (C : Addr) (sp : Sp) (E : XK) : R2 := fun x y H Q => ∃ (a dx : Addr) (fs : List (Str × V)) (b C' dy : Addr) (gs : List (Str × V)), x = .ref a ∧ y = .ref b ∧ H a = some (.ins C dx fs) ∧ H b = some (.ins C' dy gs) ∧ PySem.W.notFirst K C (.ref C') = true ∧ sp [x, y] H (fun z H' => ∃ c, z = .bl c ∧ Q (.bl c) H') E
theorem op_eqI (hs : PySem.W.findIn X.K (.ref C) "__eq__" = some (some (.ref g))) (hf : PySem.W.isFn X.K (.ref g) = true) (F : FnR X.prog X.w X.K X.mg X.base CX n g sp)
    (hr : Room n X.A) (hx : Passes CX X E) : OpR X (compareOp .Eq) (rEqI X.K C sp E) := by
  intro pins s σ H x y v u Q I rx ry h
  obtain ⟨a, dx, fs, b, C', dy, gs, rfl, rfl, ha, hb, hn, q⟩ := h
  cases (show v = Value.ref a from rx)
  cases (show u = Value.ref b from ry)
  obtain ⟨mA, J, _⟩ := ins_get I.hok ha
  obtain ⟨od, J, _⟩ := J.look
  obtain ⟨mB, J', _⟩ := ins_get I.hok hb
  obtain ⟨od', J', _⟩ := J'.look
  obtain ⟨m, hF⟩ := I.fr
  show wpAny (model X.prog X.w) X.A (richCompare .Eq (.ref a) (.ref b)) (EP X pins σ Q) X.xe s
  refine PySem.W.cmp_K (op := .Eq) (tb := .ref C') hr.units0 hF I.ok.mod.kin J J'.type hn hs hf ?_
  refine wpAny_mono (wpAny_call (run_fnR (us := [.ref a, .ref b]) (vs := [.ref a, .ref b]) F hr hx I (.cons rfl (.cons rfl .nil)) q)) (fun w s' z => ?_) fun _ _ x => x
  obtain ⟨z', H', I', rz, c, ec, qz⟩ := z
  subst ec
  exact SlX.cmpback rz ⟨.bl c, H', I', rz, qz⟩
/-- what != asks of a class with an __eq__ alone -/
structure NeK (K : PySem.W.Frag) (C : Addr) : Prop where
  ob : PySem.W.mroIn K C (.type "object") = some true
  ne : PySem.W.findIn K (.ref C) "__ne__" = some (some (.builtin "object.__ne__"))
theorem op_neI (hN : NeK X.K C) (hs : PySem.W.findIn X.K (.ref C) "__eq__" = some (some (.ref g))) (hf : PySem.W.isFn X.K (.ref g) = true) (F : FnR X.prog X.w X.K X.mg X.base CX n g sp)
    (hr : Room (n + 1) X.A) (hu : X.A.units + 2 < cLine) (hx : Passes CX X E) : OpR X (compareOp .NotEq) (rEqI X.K C (fun vs H Q E => sp vs H (fun z H' => ∃ c, z = .bl c ∧ Q (.bl (!c)) H') E) E) := by
  intro pins s σ H x y v u Q I rx ry h
  obtain ⟨a, dx, fs, b, C', dy, gs, rfl, rfl, ha, hb, hn, q⟩ := h
  cases (show v = Value.ref a from rx)
  cases (show u = Value.ref b from ry)
  obtain ⟨mA, J, _⟩ := ins_get I.hok ha
  obtain ⟨od, J, _⟩ := J.look
  obtain ⟨mB, J', _⟩ := ins_get I.hok hb
  obtain ⟨od', J', _⟩ := J'.look
  obtain ⟨m, hF⟩ := I.fr
  show wpAny (model X.prog X.w) X.A (richCompare .NotEq (.ref a) (.ref b)) (EP X pins σ Q) X.xe s
  refine OwnR.cmp_ne (tb := .ref C') hu hF I.ok.mod.kin J J'.type hn hN.ob hN.ne hs hf ?_
  refine wpAny_mono (wpAny_call (SlX.run_at (us := [.ref a, .ref b]) (ws := [.ref a, .ref b]) F hr.in1 I.env0.in1 hx I (.cons rfl (.cons rfl .nil)) q)) (fun w s' z => ?_) fun _ _ x => x
  obtain ⟨z', H', I', rz, c, ec, c2, ec2, qz⟩ := z
  subst ec
  cases (show w = Value.bool c from rz)
  cases ec2
  exact ⟨c, rfl, .bl (!c), H', I', rfl, qz⟩
end
/-- the class at C has a method m of its own, with a promise -/
structure Own (P : Program) (w : World) (K : PySem.W.Frag) (mg : Str → Option Value) (base : Heap) (k : Nat) (C : Addr) (m : Str) (sp : Sp) : Prop where
  ex : ∃ g : Addr, PySem.W.findIn K (.ref C) m = some (some (.ref g)) ∧ PySem.W.isFn K (.ref g) = true ∧ FnR P w K mg base CX0 k g sp
theorem own_of {P : Program} {w : World} {K : PySem.W.Frag} {mg : Str → Option Value} {base : Heap} {k : Nat} {C g : Addr} {m : Str} {sp : Sp} {fd : FuncData} {ps : List Str} (M : Meth K C m g) (F : FnOk P w K mg base CX0 k g fd ps sp) (b : Binds K fd ps []) : Own P w K mg base k C m sp :=
  ⟨g, M.at_, M.fn, by
    have z := F.raw b .nil

    exact z.imp fun vs H Q E h => (by show sp (vs ++ []) H Q E; rw [List.append_nil]; exact h)⟩
section
variable {X : Cx} {k j : Nat} {C : Addr} {sp : Sp}
theorem kc_lenI (c : Own X.prog X.w X.K X.mg X.base k C "__len__" sp) (hr : Room j X.A) (hk : k + 1 ≤ j) : CallR X (.builtin "len") (rLenI C sp E0) := by
  obtain ⟨g, h1, h2, F⟩ := c.ex
  exact call_lenI h1 h2 F (hr.mono hk) pass0
theorem ko_eqI (c : Own X.prog X.w X.K X.mg X.base k C "__eq__" sp) (hr : Room j X.A) (hk : k ≤ j) : OpR X (compareOp .Eq) (rEqI X.K C sp E0) := by
  obtain ⟨g, h1, h2, F⟩ := c.ex
  exact op_eqI h1 h2 F (hr.mono hk) pass0
theorem ko_neI (c : Own X.prog X.w X.K X.mg X.base k C "__eq__" sp) (hN : NeK X.K C) (hr : Room j X.A) (hk : k + 1 ≤ j) (hu : X.A.units + 64 < cLine) : OpR X (compareOp .NotEq) (rEqI X.K C (fun vs H Q E => sp vs H (fun z H' => ∃ c, z = .bl c ∧ Q (.bl (!c)) H') E) E0) := by
  obtain ⟨g, h1, h2, F⟩ := c.ex
  exact op_neI hN h1 h2 F (hr.mono hk) (by omega) pass0
end
/-- the class at C may be made by its name x; its __init__ promises sp; dvs fill up what is left out -/
structure OMak (P : Program) (w : World) (K : PySem.W.Frag) (mg : Str → Option Value) (base : Heap) (k : Nat) (x : Str) (C : Addr) (sp : Sp) (dvs : List V) : Prop where
  parts : ∃ (g : Addr) (fd : FuncData) (ps : List Str) (ds : List Value), Mk K C g ∧ FnOk P w K mg base CX0 k g fd ps sp ∧ mg x = some (.ref C) ∧ Binds K fd ps ds ∧ Vals dvs ds
/-- a method m of the class at C may be called -/
structure OMet (P : Program) (w : World) (K : PySem.W.Frag) (mg : Str → Option Value) (base : Heap) (k : Nat) (C : Addr) (m : Str) (sp : Sp) (dvs : List V) : Prop where
  parts : ∃ (g : Addr) (fd : FuncData) (ps : List Str) (ds : List Value), Cls K C ∧ Meth K C m g ∧ FnOk P w K mg base CX0 k g fd ps sp ∧ Binds K fd ps ds ∧ Vals dvs ds
section
variable {X : Cx} {k j : Nat} {C : Addr} {x m : Str} {sp : Sp} {dvs : List V} {p pos apos : Pos} {a e o : Expr} {es : List Expr} {ta : TE} {t : TA}
theorem pe_omk (c : OMak X.prog X.w X.K X.mg X.base k x C sp dvs) (room : Room j X.A) (le : k + 1 ≤ j) (gl : Gl X x) (args : PA X (a :: es) t) (nodb : (x == ("__debug__" : Str)) = false := by decide)
    (star : starEach (a :: es) X.env = (false, eval a X.env) :: starEach es X.env := by rfl) (plain : (backTo pos (starEach es X.env)).any (·.1) = false := by rfl) : PE X (.Call (.Name x p) (a :: es) [] pos) (tMake C sp dvs E0 t) := by
  obtain ⟨g, fd, ps, ds, M, F, hm, b, v⟩ := c.parts
  exact pe_make M F (room.mono le) gl hm b v pass0 args nodb star plain
theorem pe_omt {pl : Sem Bool} (c : OMet X.prog X.w X.K X.mg X.base k C m sp dvs) (room : Room j X.A) (le : k ≤ j) (ho : PE X o ta) (args : PA X (a :: es) t)
    (star : starEach (a :: es) X.env = (false, eval a X.env) :: starEach es X.env := by rfl) (plain : (backTo pos (starEach es X.env)).any (·.1) = false := by rfl)
    (way : eval (.Call (.Attribute o m apos) (a :: es) [] pos) X.env = (do let ov ← eval o X.env; standAt apos.atName; let (g, first) ← holding [ov] (getMethod ov m pl); callWith pos g first (backTo pos (starEach (a :: es) X.env)) (backToKw pos (keywordEach [] X.env))) := by rfl) :
    PE X (.Call (.Attribute o m apos) (a :: es) [] pos) (tMeth C m sp dvs E0 ta t) := by
  obtain ⟨g, fd, ps, ds, hc, hm, F, b, v⟩ := c.parts
  exact pe_meth (pl := pl) ho hc hm F (room.mono le) b v pass0 args star plain way
theorem pe_omt0 {pl : Sem Bool} (c : OMet X.prog X.w X.K X.mg X.base k C m sp dvs) (room : Room j X.A) (le : k ≤ j) (ho : PE X o ta)
    (way : eval (.Call (.Attribute o m apos) [] [] pos) X.env = (do let ov ← eval o X.env; standAt apos.atName; let (g, first) ← holding [ov] (getMethod ov m pl); callWith pos g first (backTo pos (starEach [] X.env)) (backToKw pos (keywordEach [] X.env))) := by rfl) :
    PE X (.Call (.Attribute o m apos) [] [] pos) (tMeth C m sp dvs E0 ta tNil) := by
  obtain ⟨g, fd, ps, ds, hc, hm, F, b, v⟩ := c.parts
  exact pe_meth0 (pl := pl) ho hc hm F (room.mono le) b v pass0 way
theorem ke_fld {K : PySem.W.Frag} {f : Str} (ho : PE X o ta) (hb : attributeBase o f X.env (eval o X.env) = eval o X.env := by rfl) (h : X.K = K := by rfl) : PE X (.Attribute o f pos) (tFld K ta f) := h ▸ pe_fld ho hb
end
end L2

/-! == and != of an own object and what is of a built-in kind -/
namespace L2
open PySem PySem.Spec PyProof.Rows
/-- the kind of a value -/
def KdV (K : PySem.W.Frag) (T : String) (x : V) (H : Hp) : Prop := match x with
  | .non => T = "NoneType"
  | .bl _ => T = "bool"
  | .str _ => T = "str"
  | .int _ => T = "int"
  | .ref p => (T = "list" ∧ ∃ xs, SqL K H p xs) ∨ (T = "tuple" ∧ ∃ xs, SqT K H p xs)
  | _ => False
theorem looks_ty {M : Model} {s : Shared} {v : Value} {T : String} (h : s.TypeIs v T) : PySem.W.Looks M s.heap (typeOf v) (.type T) := by
  cases v with
  | ref a =>
    obtain ⟨o, e, c⟩ := h
    rw [← c]
    exact (PySem.W.Looks.ld e).andThen .now
  | _ => exact PySem.W.Looks.of_pure h
theorem kdV_is {X : Cx} {pins : List (Addr × Obj)} {σ : St} {H : Hp} {s : Shared} {T : String} {x : V} {v : Value} (I : Inv X pins σ H s) (r : RelV x v) (ty : KdV X.K T x H) : s.TypeIs v T := by
  cases x with
  | non =>
    cases r
    cases (show T = "NoneType" from ty)
    rfl
  | bl b =>
    cases r
    cases (show T = "bool" from ty)
    rfl
  | str z =>
    obtain ⟨t, rfl⟩ := r
    cases (show T = "str" from ty)
    exact typeIs_str s z t
  | int i =>
    obtain ⟨t, rfl⟩ := r
    cases (show T = "int" from ty)
    exact typeIs_int s i t
  | ref p =>
    cases r
    rcases ty with ⟨rfl, xs, hq⟩ | ⟨rfl, xs, hq⟩
    · obtain ⟨its, _, pl, _⟩ := I.list hq
      exact pl.isList.typeIs
    · obtain ⟨its, _, pl, _⟩ := I.tuple hq
      first | exact pl.typeIs | exact pl.isTuple.typeIs | exact (by obtain ⟨o, n, e, c, _⟩ := pl; exact ⟨o, e, c⟩) | exact (by obtain ⟨o, e, c, _⟩ := pl; exact ⟨o, e, c⟩)
  | _ => exact False.elim ty
section
variable {X : Cx} {CX : CXT} {C g : Addr} {n : Nat} {sp : Sp} {E : XK}
/-- x == y, x of the class at C, whose __eq__ is at g; y of a built-in kind T -/
def rEqB (K : PySem.W.Frag) (C : Addr) (sp : Sp) (E : XK) : R2 := fun x y H Q => ∃ (a dx : Addr) (fs : List (Str × V)) (T : String), x = .ref a ∧ H a = some (.ins C dx fs) ∧ KdV K T y H ∧ PySem.W.notFirst K C (.type T) = true ∧ sp [x, y] H (fun z H' => ∃ c, z = .bl c ∧ Q (.bl c) H') E
theorem op_eqB (hs : PySem.W.findIn X.K (.ref C) "__eq__" = some (some (.ref g))) (hf : PySem.W.isFn X.K (.ref g) = true) (F : FnR X.prog X.w X.K X.mg X.base CX n g sp)
    (hr : Room n X.A) (hx : Passes CX X E) : OpR X (compareOp .Eq) (rEqB X.K C sp E) := by
  intro pins s σ H x y v u Q I rx ry h
  obtain ⟨a, dx, fs, T, rfl, ha, hk, hn, q⟩ := h
  cases (show v = Value.ref a from rx)
  obtain ⟨mA, J, _⟩ := ins_get I.hok ha
  obtain ⟨od, J, _⟩ := J.look
  obtain ⟨m, hF⟩ := I.fr
  show wpAny (model X.prog X.w) X.A (richCompare .Eq (.ref a) u) (EP X pins σ Q) X.xe s
  refine PySem.W.cmp_K (op := .Eq) (tb := .type T) hr.units0 hF I.ok.mod.kin J (looks_ty (kdV_is I ry hk)) hn hs hf ?_
  refine wpAny_mono (wpAny_call (run_fnR (us := [.ref a, u]) (vs := [.ref a, y]) F hr hx I (.cons rfl (.cons ry .nil)) q)) (fun w s' z => ?_) fun _ _ x => x
  obtain ⟨z', H', I', rz, c, ec, qz⟩ := z
  subst ec
  exact SlX.cmpback rz ⟨.bl c, H', I', rz, qz⟩
theorem op_neB (hN : NeK X.K C) (hs : PySem.W.findIn X.K (.ref C) "__eq__" = some (some (.ref g))) (hf : PySem.W.isFn X.K (.ref g) = true) (F : FnR X.prog X.w X.K X.mg X.base CX n g sp)
    (hr : Room (n + 1) X.A) (hu : X.A.units + 2 < cLine) (hx : Passes CX X E) : OpR X (compareOp .NotEq) (rEqB X.K C (fun vs H Q E => sp vs H (fun z H' => ∃ c, z = .bl c ∧ Q (.bl (!c)) H') E) E) := by
  intro pins s σ H x y v u Q I rx ry h
  obtain ⟨a, dx, fs, T, rfl, ha, hk, hn, q⟩ := h
  cases (show v = Value.ref a from rx)
  obtain ⟨mA, J, _⟩ := ins_get I.hok ha
  obtain ⟨od, J, _⟩ := J.look
  obtain ⟨m, hF⟩ := I.fr
  show wpAny (model X.prog X.w) X.A (richCompare .NotEq (.ref a) u) (EP X pins σ Q) X.xe s
  refine OwnR.cmp_ne (tb := .type T) hu hF I.ok.mod.kin J (looks_ty (kdV_is I ry hk)) hn hN.ob hN.ne hs hf ?_
  refine wpAny_mono (wpAny_call (SlX.run_at (us := [.ref a, u]) (ws := [.ref a, y]) F hr.in1 I.env0.in1 hx I (.cons rfl (.cons ry .nil)) q)) (fun w s' z => ?_) fun _ _ x => x
  obtain ⟨z', H', I', rz, c, ec, c2, ec2, qz⟩ := z
  subst ec
  cases (show w = Value.bool c from rz)
  cases ec2
  exact ⟨c, rfl, .bl (!c), H', I', rfl, qz⟩
theorem ko_eqB (c : Own X.prog X.w X.K X.mg X.base k C "__eq__" sp) (hr : Room j X.A) (hk : k ≤ j) : OpR X (compareOp .Eq) (rEqB X.K C sp E0) := by
  obtain ⟨g, h1, h2, F⟩ := c.ex
  exact op_eqB h1 h2 F (hr.mono hk) pass0
theorem ko_neB (c : Own X.prog X.w X.K X.mg X.base k C "__eq__" sp) (hN : NeK X.K C) (hr : Room j X.A) (hk : k + 1 ≤ j) (hu : X.A.units + 64 < cLine) : OpR X (compareOp .NotEq) (rEqB X.K C (fun vs H Q E => sp vs H (fun z H' => ∃ c, z = .bl c ∧ Q (.bl (!c)) H') E) E0) := by
  obtain ⟨g, h1, h2, F⟩ := c.ex
  exact op_neB hN h1 h2 F (hr.mono hk) (by omega) pass0
end
end L2
namespace L2
open PySem PySem.Spec PyProof.Rows
/-- isinstance of anything whose class is told, and an own class -/
def rIsT (K : PySem.W.Frag) (C : Addr) : List V → Hp → VK → Prop := fun xs H Q => ∃ (x : V) (t : Value) (b : Bool), xs = [x, .ref C] ∧ TyOf K H x t ∧ PySem.W.kitOne K t (.ref C) = some b ∧ Q (.bl b) H
theorem kc_isT {X : Cx} {C : Addr} : CallR X (.builtin "isinstance") (rIsT X.K C) := by
  intro pins s σ H xs us Q I r h
  obtain ⟨x, t, b, rfl, ty, e, q⟩ := h
  obtain ⟨u, w', rfl, ru, rw'⟩ := vals2 r
  cases rw'
  exact isinst_ok I ru ty e fun tk => ⟨.bl b, H, I.tok _, rfl, q⟩
end L2

/-! own classes: repr(x) and str(x) by an own __repr__ and __str__, x in a list by an own __eq__ -/
namespace OwnS
open PySem PySem.Spec PyProof.Rows PySem.Calls
section
variable {prog : Program} {w : World} {A : Around} {E : Value → Shared → Prop} {s : Shared} {K : PySem.W.Frag} {x C f : Addr} {ox : Obj} {odd : Option Obj}
open Builtin Builtin.Str in
theorem str_own {Q : Value → Shared → Prop} (hu : A.in1.in1.units < cLine) (X : K.In s.heap) (I : PySem.W.InstAt s.heap x ox C odd) (hs : PySem.W.findIn K (.ref C) "__str__" = some (some (.ref f))) (hf : PySem.W.isFn K (.ref f) = true)
    (h : wpAny (model prog w) A.in1.in1 (call (.ref f) [.ref x]) (fun r s₁ => ∃ y u, r = .str y u ∧ Q r s₁) E s) : wpAny (model prog w) A (call (.type "str") [.ref x]) Q E s := by
  refine callType_codes (T := "str") (Bi := Builtin.«object.__init__») (Q₁ := fun r s₁ => ∃ y u, r = .str y u ∧ Q r s₁) PySem.F.called_str (PySem.F.typeCall_str_1 _) PySem.F.entry_object_init ?_ ?_
  · refine codeAny_of_tree ?_
    show wpAny _ A.in1.in1 (do checkBuiltinCall "str.__new__" ⟨[.type "str", .ref x], []⟩; again (.builtin "str.__new__" ⟨[.type "str", .ref x], []⟩)) _ _ s
    refine wpAny_bind (wpAny_of_eq (PySem.F.newCall_str_1 _) (wpAny_pure ⟨plainId_quiet (by decide +kernel) _, codeAny_builtin PySem.F.entry_str_new ?_⟩))
    rw [Around.under_plainId (by decide +kernel) _]
    rw [str_new_tree]
    refine wpAny_bind (wpAny_pure ?_)
    refine wpAny_bind (wpAny_of_eq isSubtype_str_str ?_)
    have key : wpAny (model prog w) A.in1.in1 (PySem.Builtin.Str.strOf (.ref x)) (fun r s₁ => ∃ y u, r = .str y u ∧ Q r s₁) E s := by
      unfold PySem.Builtin.Str.strOf
      rw [show isExactStr (.ref x) = false from rfl]
      refine wpAny_bind (m := cRoomFor _ _) (wpAny_cRoomFor hu ?_)
      refine wpAny_bind (m := callSpecial? (.ref x) (Str.ofString "__str__")) (PySem.W.special_fn X I hs (beq_iff_eq.mp hf) (wpAny_mono h (fun r s' z => ?_) fun _ _ y => y))
      obtain ⟨y, u, rfl, z⟩ := z
      exact wpAny_pure ⟨_, _, rfl, z⟩
    exact wpAny_bind (wpAny_mono key (fun r s₁ hr => wpAny_pure hr) fun _ _ y => y)
  · rintro obj s₁ ⟨y, u, rfl, hq⟩
    exact ⟨typeIs_str _ _ _, PySem.F.args_object_init_2 _ _, object_init_meets PySem.F.called_str.init.lookup PySem.F.called_str.made (by decide) prog w A.in1 _ s₁ ⟨typeIs_str _ _ _, rfl, hq⟩⟩
end
section
open MeetsSeq MeetsSeq2 MeetsSeq3 SeqRoads2 GQ
open AutoSeq1 (wpAny_loadPart')
variable {prog : Program} {w : World} {A : Around} {R : Result → Shared → Prop} {E : Value → Shared → Prop}
/-- at each turn the list is read anew: N items, the i-th one is x or not -/
def ListC (prog : Program) (w : World) (A : Around) (E : Value → Shared → Prop) (l : Addr) (x : Value) (N : Nat) (e : Nat → Bool) (I : Shared → Prop) : Prop :=
  ∀ i s, I s → ∃ (items : Array Value) (n : Nat), s.heap.get? l = some { cls := .type "list", data := .seq items n } ∧ items.size = N ∧
    ∀ (h1 : i < items.size), wpAny (model prog w) A.in1 (eqBool items[i] x) (fun r s' => r = e i ∧ I s') E s
theorem in_loopG (l : Addr) (x : Value) (N : Nat) (e : Nat → Bool) (I : Shared → Prop) (hl : ListC prog w A (fun e s' => R (.error e) s') l x N e I) (k : Nat) :
    ∀ i : Nat, N - i = k → i ≤ N → (∀ s, I s → R (.ok (.ret (.bool ((List.range' i (N - i)).any e)))) s) → ∀ s, I s →
      wpAny (model prog w) A.in1 (Builtin.«list.__contains__.loop» ⟨[.ref l, x, rawInt i], []⟩) (FinOf prog w A R) (fun e s' => R (.error e) s') s := by
  induction k with
  | zero =>
    intro i hk hi fin s h
    obtain ⟨items, n, hl1, hs1, _⟩ := hl i _ h
    have hR := fin s h
    rw [show N - i = 0 by omega] at hR
    obtain ⟨hp, g, d, tk, os⟩ := s
    wp_walk using wpAny_loadPart' hl1
    have hi1 : items[((i : Nat) : Int).toNat]? = none := by simp; omega
    rw [hi1]
    wp_walk
    exact hR
  | succ k ih =>
    intro i hk hi fin s h
    obtain ⟨items, n, hl1, hs1, turn⟩ := hl i _ h
    have hlt : i < items.size := by omega
    have ht := turn hlt
    have er : List.range' i (N - i) = i :: List.range' (i + 1) (N - (i + 1)) := by
      rw [show N - i = (N - (i + 1)) + 1 by omega, List.range'_succ]
    rw [er, List.any_cons] at fin
    obtain ⟨hp, g, d, tk, os⟩ := s
    wp_walk using wpAny_loadPart' hl1
    have hi1 : items[((i : Nat) : Int).toNat]? = some items[i] := by simp [hlt]
    have hc : ((i : Int) + 1) = ((i + 1 : Nat) : Int) := by omega
    rw [hi1]
    refine wpAny_bind (wpAny_mono ht (fun r s2 h2 => ?_) fun _ _ x => x)
    obtain ⟨hr, h2⟩ := h2
    subst hr
    cases hb : e i with
    | true =>
      rw [hb] at fin
      have hR := fin s2 h2
      obtain ⟨hp2, g2, d2, tk2, os2⟩ := s2
      wp_walk
      exact hR
    | false =>
      rw [hb] at fin
      have hrec := ih (i + 1) (by omega) (by omega) (fun s q => by simpa using fin s q) s2 h2
      obtain ⟨hp2, g2, d2, tk2, os2⟩ := s2
      wp_walk
      rw [hc]
      exact ⟨plainId_quiet plain_contains_loop _, codeAny_builtin entry_contains_loop (by
        rw [Around.under_plainId plain_contains_loop _]
        exact hrec)⟩
theorem list_inG (l : Addr) (x : Value) (N : Nat) (e : Nat → Bool) (I : Shared → Prop) (hl : ListC prog w A (fun e s' => R (.error e) s') l x N e I)
    (fin : ∀ s, I s → R (.ok (.ret (.bool ((List.range N).any e)))) s) {s : Shared} (h : I s) :
    wpAny (model prog w) A.in1 (Builtin.«list.__contains__» ⟨[.ref l, x], []⟩) (FinOf prog w A R) (fun e s' => R (.error e) s') s := by
  obtain ⟨items, n, hl1, hs1, _⟩ := hl 0 _ h
  have h0 := in_loopG (R := R) l x N e I hl N 0 (by omega) (Nat.zero_le _) (fun s q => by rw [Nat.sub_zero, ← List.range_eq_range']; exact fin s q) s h
  obtain ⟨hp, g, d, tk, os⟩ := s
  wp_walk using wpAny_loadPart' hl1
  exact ⟨plainId_quiet plain_contains_loop _, codeAny_builtin entry_contains_loop (by
    rw [Around.under_plainId plain_contains_loop _]
    exact h0)⟩
theorem in_listG {l : Addr} {x : Value} {N : Nat} {Q : Value → Shared → Prop} (e : Nat → Bool) (I : Shared → Prop) (hl : ListC prog w A E l x N e I)
    (fin : ∀ s, I s → Q (.bool ((List.range N).any e)) s) {s : Shared} (h : I s) : wpAny (model prog w) A (compareOp .In x (.ref l)) Q E s := by
  obtain ⟨items, n, hl1, hs1, _⟩ := hl 0 _ h
  show wpAny _ A (do return .bool (← contains (.ref l) x)) Q E s
  refine wpAny_bind (wpAny_contains_slot ⟨_, hl1, rfl⟩ F.slot_list_contains (wpAny_mono (GQ.call_here (Q := fun v s' => ∃ b, v = .bool b ∧ Q (.bool b) s') F.slot_list_contains ⟨_, hl1, rfl⟩ F.entry_list_contains (F.args_list_contains_2 _ _) ?_) (fun v s' hv => ?_) fun _ _ e => e))
  · exact list_inG (R := wants (fun v s' => ∃ b, v = .bool b ∧ Q (.bool b) s') E) l x N e I hl (fun s q => ⟨_, rfl, fin s q⟩) h
  · obtain ⟨b, rfl, hq⟩ := hv
    exact wpAny_truthy_bool (wpAny_pure hq)
end
end OwnS
namespace L2
open PySem PySem.Spec PyProof.Rows
section
variable {X : Cx} {CX : CXT} {C g : Addr} {n : Nat} {sp : Sp} {E : XK}
/-- repr(x) or str(x), x of the class at C, whose method is at g -/
def rTxtI (C : Addr) (sp : Sp) (E : XK) : List V → Hp → VK → Prop := fun xs H Q => ∃ (a dx : Addr) (fs : List (Str × V)), xs = [V.ref a] ∧ H a = some (.ins C dx fs) ∧ sp [.ref a] H (fun z H' => ∃ y : Str, z = .str y ∧ Q z H') E
theorem call_reprI (hs : PySem.W.findIn X.K (.ref C) "__repr__" = some (some (.ref g))) (hf : PySem.W.isFn X.K (.ref g) = true) (F : FnR X.prog X.w X.K X.mg X.base CX n g sp) (hr : Room (n + 1) X.A) (hx : Passes CX X E) : CallR X (.builtin "repr") (rTxtI C sp E) := by
  intro pins s σ H xs us Q I r h
  obtain ⟨a, dx, fs, rfl, ha, q⟩ := h
  obtain ⟨u, rfl, ru⟩ := r.one
  cases (show u = Value.ref a from ru)
  obtain ⟨mA, J, _⟩ := ins_get I.hok ha
  obtain ⟨od, J, _⟩ := J.look
  obtain ⟨m, hF⟩ := I.fr
  have hr2 : Room n X.A.in1 := hr.in1
  refine PySem.W.repr_K hr2.units0 hF I.ok.mod.kin J hs hf (wpAny_mono (wpAny_call (SlX.run_at (us := [.ref a]) (ws := [.ref a]) F hr2 I.env0.in1 hx I (.cons rfl .nil) q)) (fun w s' z => ?_) fun _ _ x => x)
  obtain ⟨z', H', I', rz, y, ey, qz⟩ := z
  subst ey
  obtain ⟨t, e⟩ := (show ∃ t, w = Value.str y t from rz)
  cases e
  exact ⟨.str y, H', I', ⟨_, rfl⟩, qz⟩
theorem call_strI (hs : PySem.W.findIn X.K (.ref C) "__str__" = some (some (.ref g))) (hf : PySem.W.isFn X.K (.ref g) = true) (F : FnR X.prog X.w X.K X.mg X.base CX n g sp) (hr : Room (n + 2) X.A) (hx : Passes CX X E) : CallR X (.type "str") (rTxtI C sp E) := by
  intro pins s σ H xs us Q I r h
  obtain ⟨a, dx, fs, rfl, ha, q⟩ := h
  obtain ⟨u, rfl, ru⟩ := r.one
  cases (show u = Value.ref a from ru)
  obtain ⟨mA, J, _⟩ := ins_get I.hok ha
  obtain ⟨od, J, _⟩ := J.look
  have hr2 : Room n X.A.in1.in1 := hr.in1.in1
  refine OwnS.str_own hr2.units0 I.kIn J hs hf (wpAny_mono (wpAny_call (SlX.run_at (us := [.ref a]) (ws := [.ref a]) F hr2 I.env0.in1.in1 hx I (.cons rfl .nil) q)) (fun w s' z => ?_) fun _ _ x => x)
  obtain ⟨z', H', I', rz, y, ey, qz⟩ := z
  subst ey
  obtain ⟨t, e⟩ := (show ∃ t, w = Value.str y t from rz)
  cases e
  exact ⟨_, _, rfl, .str y, H', I', ⟨_, rfl⟩, qz⟩
/-- x in a list of other objects of the class at C, whose __eq__ only looks -/
def rInI (K : PySem.W.Frag) (C : Addr) (sp : Sp) (E : XK) : R2 := fun x y H Q => ∃ (a dx : Addr) (fs : List (Str × V)) (l : Addr) (bs : List Addr) (e : Addr → Bool), x = .ref a ∧ y = .ref l ∧ H a = some (.ins C dx fs) ∧ H l = some (.lst (bs.map V.ref)) ∧ PySem.W.notFirst K C (.ref C) = true ∧
  (∀ b ∈ bs, b ≠ a ∧ (∃ dy gs, H b = some (.ins C dy gs)) ∧ ∀ Q2 : VK, Q2 (.bl (e b)) H → sp [.ref b, .ref a] H Q2 E) ∧ Q (.bl (bs.any e)) H
theorem op_inI (hs : PySem.W.findIn X.K (.ref C) "__eq__" = some (some (.ref g))) (hf : PySem.W.isFn X.K (.ref g) = true) (F : FnR X.prog X.w X.K X.mg X.base CX n g sp)
    (hr : Room (n + 1) X.A) (hx : Passes CX X E) : OpR X (compareOp .In) (rInI X.K C sp E) := by
  intro pins s σ H x y v u Q I rx ry h
  obtain ⟨a, dx, fs, l, bs, e, rfl, rfl, ha, hl, hn, hb, q⟩ := h
  cases (show v = Value.ref a from rx)
  cases (show u = Value.ref l from ry)
  have hr2 : Room n X.A.in1 := hr.in1
  refine OwnS.in_listG (N := bs.length) (fun i => e (bs.getD i 0)) (fun s' => Inv X pins σ H s') (fun i s' I' => ?_) (fun s' I' => ⟨.bl _, H, I', rfl, ?_⟩) I
  · have I' : Inv X pins σ H s' := I'
    obtain ⟨z, its, k, r, eg⟩ := I'.hok l _ hl
    have lz : its.length = bs.length := by rw [← r.length, List.length_map]
    refine ⟨its.toArray, k, eg, by rw [List.size_toArray]; exact lz, fun h1 => ?_⟩
    have h1' : i < its.length := by simpa using h1
    have k1 : i < (bs.map V.ref).length := by rw [List.length_map]; omega
    obtain ⟨u, hu, ru⟩ := r.get (List.getElem?_eq_getElem k1)
    rw [List.getElem?_eq_getElem h1'] at hu
    rw [List.getElem_map] at ru
    have eu : its.toArray[i] = Value.ref bs[i] := by
      have : its[i] = u := Option.some.inj hu
      rw [show its.toArray[i] = its[i] by simp, this]
      exact ru
    have mem : bs[i] ∈ bs := List.getElem_mem _
    obtain ⟨ne, ⟨dy, gs, hbi⟩, sq⟩ := hb _ mem
    rw [eu]
    have eg2 : bs.getD i 0 = bs[i] := by rw [List.getD_eq_getElem?_getD, List.getElem?_eq_getElem (by omega)]; rfl
    show wpAny (model X.prog X.w) X.A.in1 (eqBool (Value.ref bs[i]) (Value.ref a)) (fun r s' => r = e (bs.getD i 0) ∧ Inv X pins σ H s') X.xe s'
    rw [eg2]
    refine GQ.eqBool_refG ne ?_
    obtain ⟨mA, J, _⟩ := ins_get I'.hok hbi
    obtain ⟨od, J, _⟩ := J.look
    obtain ⟨mB, J', _⟩ := ins_get I'.hok ha
    obtain ⟨od', J', _⟩ := J'.look
    obtain ⟨m, hF⟩ := I'.fr
    refine PySem.W.cmp_K (op := .Eq) (tb := .ref C) hr2.units0 hF I'.ok.mod.kin J J'.type hn hs hf ?_
    refine wpAny_mono (wpAny_call (SlX.run_at (us := [.ref bs[i], .ref a]) (ws := [.ref bs[i], .ref a]) F hr2 I'.env0.in1 hx I' (.cons rfl (.cons rfl .nil)) (sq (fun z H' => z = .bl (e bs[i]) ∧ H' = H) ⟨rfl, rfl⟩))) (fun w s' z => ?_) fun _ _ x => x
    obtain ⟨z', H', I2, rz, ez, eH⟩ := z
    subst ez eH
    cases (show w = Value.bool (e bs[i]) from rz)
    exact ⟨_, rfl, rfl, I2⟩
  · have : (List.range bs.length).any (fun i => e (bs.getD i 0)) = bs.any e := by
      rw [Bool.eq_iff_iff, List.any_eq_true, List.any_eq_true]
      constructor
      · rintro ⟨i, hi, h⟩
        have hi := List.mem_range.mp hi
        rw [List.getD_eq_getElem?_getD, List.getElem?_eq_getElem hi] at h
        exact ⟨bs[i], List.getElem_mem _, h⟩
      · rintro ⟨b, hb, h⟩
        obtain ⟨i, hi, rfl⟩ := List.getElem_of_mem hb
        refine ⟨i, List.mem_range.mpr hi, ?_⟩
        rw [List.getD_eq_getElem?_getD, List.getElem?_eq_getElem hi]
        exact h
    show Q (V.bl _) H
    rw [this]
    exact q
end
section
variable {X : Cx} {k j : Nat} {C : Addr} {sp : Sp}
theorem kc_reprI (c : Own X.prog X.w X.K X.mg X.base k C "__repr__" sp) (hr : Room j X.A) (hk : k + 1 ≤ j) : CallR X (.builtin "repr") (rTxtI C sp E0) := by
  obtain ⟨g, h1, h2, F⟩ := c.ex
  exact call_reprI h1 h2 F (hr.mono hk) pass0
theorem kc_strI (c : Own X.prog X.w X.K X.mg X.base k C "__str__" sp) (hr : Room j X.A) (hk : k + 2 ≤ j) : CallR X (.type "str") (rTxtI C sp E0) := by
  obtain ⟨g, h1, h2, F⟩ := c.ex
  exact call_strI h1 h2 F (hr.mono hk) pass0
theorem ko_inI (c : Own X.prog X.w X.K X.mg X.base k C "__eq__" sp) (hr : Room j X.A) (hk : k + 1 ≤ j) : OpR X (compareOp .In) (rInI X.K C sp E0) := by
  obtain ⟨g, h1, h2, F⟩ := c.ex
  exact op_inI h1 h2 F (hr.mono hk) pass0
end
end L2

namespace L2
open PySem PySem.Spec PyProof.Rows
/-- an f-string as one word, so that it unifies inside a comprehension -/
def tJn (ts : List TE) : TE := fun σ H Q => tJs ts Str.empty σ H fun out H1 => Q (.str out) H1
theorem pe_joinedT {X : Cx} {v1 v2 : Expr} {rest : List Expr} {ts : List TE} {pos : Pos} (h : PJ X (v1 :: v2 :: rest) ts) : PE X (.JoinedStr (v1 :: v2 :: rest) pos) (tJn ts) := pe_joined h
end L2

namespace L2
open PySem PySem.Spec PyProof.Rows
/-- as ko_eqB, the written part named, for comprehensions -/
theorem ko_eqBK {X : Cx} {K : PySem.W.Frag} {k j : Nat} {C : Addr} {sp : Sp} (c : Own X.prog X.w X.K X.mg X.base k C "__eq__" sp) (hr : Room j X.A) (hk : k ≤ j) (h : X.K = K := by rfl) : OpR X (compareOp .Eq) (rEqB K C sp E0) := by subst h; exact ko_eqB c hr hk
end L2

namespace Pot
open PySem PySem.Spec PyProof.Rows L2
/-! ### xs[::step], the step 1 or -1, worked out -/
def tStepL (K : PySem.W.Frag) (te ts : TE) : TE := fun σ H Q => te σ H fun x H1 => tPart ts σ H1 fun o H2 => ∃ i : Int, o = some i ∧ ∃ (a : Addr) (xs : List V), x = .ref a ∧ (i = 1 ∨ i = -1) ∧ SqL K H2 a xs ∧ ∀ p, H2 p = none → Q (.ref p) (upd H2 p (.lst (if i = 1 then xs else xs.reverse)))
section
variable {X : Cx} {K : PySem.W.Frag}
theorem pe_stepL0 {e st : Expr} {te ts : TE} {p3 pos : Pos} (he : PE X e te) (hs : PE X st ts) : PE X (.Subscript e (.Slice none none (some st) p3) pos) (tStepL X.K te ts) := by
  refine ⟨fun pins s σ H Q I h => ?_⟩
  refine Subscript_ (thn (he.run pins s σ H _ I h) fun v s1 ⟨x, H1, I1, r1, q1⟩ => ?_)
  have hst : PO X (some st) (tPart ts) := po_some hs
  refine wpAny_Slice (thn (po_none.run pins s1 σ H1 (fun o H2 => o = none ∧ H2 = H1) I1 ⟨rfl, rfl⟩) fun vl s2 ⟨l, H2, I2, pl, el, e2⟩ => ?_)
  subst el e2
  refine thn (po_none.run pins s2 σ H2 (fun o H3 => o = none ∧ H3 = H2) I2 ⟨rfl, rfl⟩) fun vu s3 ⟨u, H3, I3, pu, eu, e3⟩ => ?_
  subst eu e3
  refine thn (hst.run pins s3 σ H3 _ I3 q1) fun vs s4 ⟨o, H4, I4, ps, i, eo, a, xs, ex, hi, hx, q⟩ => ?_
  subst eo ex
  cases r1
  have I5 : Inv X pins σ H4 { s4 with heap := s4.heap.push { cls := .type "slice", data := .fields #[vl, vu, vs] } } := I4.kept (t' := s4.toks) fun b ob q => Heap.get?_push_of_some _ q
  obtain ⟨its, r, ht, hz⟩ := I5.list hx
  have hlen := r.length
  show wpAny (model X.prog X.w) X.A (subscriptTail e (.Slice none none (some st) p3) (.ref a) (.ref s4.heap.objs.size)) (EP X pins σ Q) X.xe { s4 with heap := s4.heap.push { cls := .type "slice", data := .fields #[vl, vu, vs] } }
  refine tail_any (ops := [.ref a, .ref s4.heap.objs.size]) ht.isList.typeIs (PySem.slot_list_getitem.lookup) ?_ (by with_unfolding_all rfl)
  refine wpAny_getItem_list_slice ht.isList (Heap.IsSliceOf.new _ vl vu vs) pl pu ps (by rcases hi with rfl | rfl <;> decide) ?_ (by rw [List.size_toArray]; omega)
  rcases hi with rfl | rfl
  · have e1 : slicePick its.toArray none none (some 1) = its.toArray := by
      exact slicePick_all its.toArray
    rw [e1]
    have q := q _ (I5.hok.fresh (Nat.le_refl _))
    rw [if_pos rfl] at q
    refine ⟨.ref _, _, I5.laid (t' := s4.toks) (o := .lst xs) (fun b ob q => Heap.get?_push_of_some _ q) (Nat.le_refl _) ?_, rfl, q⟩
    exact ⟨hz, _, 0, r, Heap.get?_push_size _ rfl⟩
  · rw [PySem.W.krv_pick]
    have q := q _ (I5.hok.fresh (Nat.le_refl _))
    rw [if_neg (by decide)] at q
    refine ⟨.ref _, _, I5.laid (t' := s4.toks) (o := .lst xs.reverse) (fun b ob q => Heap.get?_push_of_some _ q) (Nat.le_refl _) ?_, rfl, q⟩
    exact ⟨by rw [List.length_reverse]; exact hz, _, 0, r.reverse, Heap.get?_push_size _ rfl⟩
theorem pe_stepL {e st : Expr} {te ts : TE} {p3 pos : Pos} (he : PE X e te) (hs : PE X st ts) (h : X.K = K := by rfl) : PE X (.Subscript e (.Slice none none (some st) p3) pos) (tStepL K te ts) := h ▸ pe_stepL0 he hs
end
end Pot

set_option maxHeartbeats 1000000
namespace Pot
open PySem PySem.Spec PyProof.Rows L2
/-! ### list(zip(xs, ys)) of two lists -/
theorem zw_nolen : typeLookup (.type "zip") "__len__" = pure none := by rw [typeLookup_type, builtinLookup_eq_fast]; kernel_rfl
theorem zw_nohint : typeLookup (.type "zip") "__length_hint__" = pure none := by rw [typeLookup_type, builtinLookup_eq_fast]; kernel_rfl
/-- what the zip is like behind i turns -/
def ZwSt (h : Heap) (z TI TO i1 i2 l1 l2 S : Addr) (i : Nat) : Prop :=
  IsPair h TI (.ref i1) (.ref i2) ∧ h.IsListIter i1 l1 i ∧ h.IsListIter i2 l2 i ∧ ((i = 0 ∧ IsZip h z TI TO .none ∧ ∃ a b, IsPair h TO a b) ∨ ∃ T f oT, IsZipHeld h z TI TO T f ∧ h.get? T = some oT ∧ T ≠ z ∧ T ≠ i1 ∧ T ≠ i2 ∧ T ≠ S)
structure ZwG (xs ys : Array Value) (lo : Addr) (h : Heap) (as : List Addr) : Prop where
  rise : as.Pairwise (· < ·)
  above : ∀ a ∈ as, lo < a
  pairs : ∀ (j : Nat) (a : Addr), as[j]? = some a → ∃ x y, xs[j]? = some x ∧ ys[j]? = some y ∧ h.get? a = some { cls := .type "tuple", data := .seq #[x, y] }
theorem ZwG.there {xs ys : Array Value} {lo : Addr} {h : Heap} {as : List Addr} (g : ZwG xs ys lo h as) {a : Addr} (ha : a ∈ as) : a < h.objs.size := by
  obtain ⟨j, hj⟩ := List.mem_iff_getElem?.mp ha
  obtain ⟨_, _, _, _, e⟩ := g.pairs j a hj
  exact Heap.lt_size e
section
variable {prog : Program} {w : World} {A : Around} {E : Value → Shared → Prop} {s : Shared} {xs ys : Array Value} {z TI TO i1 i2 l1 l2 S : Addr}
theorem zw_keep {h h' : Heap} {i : Nat} (x : ZwSt h z TI TO i1 i2 l1 l2 S i) (hk : ∀ b o, b ≠ S → h.get? b = some o → h'.get? b = some o) (n1 : z ≠ S) (n2 : TI ≠ S) (n3 : TO ≠ S) (n4 : i1 ≠ S) (n5 : i2 ≠ S) : ZwSt h' z TI TO i1 i2 l1 l2 S i := by
  obtain ⟨a1, a2, a3, a4⟩ := x
  refine ⟨hk _ _ n2 a1, a2.at fun o e => hk _ o n4 e, a3.at fun o e => hk _ o n5 e, ?_⟩
  rcases a4 with ⟨e, hz, a, b, hp⟩ | ⟨T, f, oT, hz, ht, t1, t2, t3, t4⟩
  · exact .inl ⟨e, hk _ _ n1 hz, a, b, hk _ _ n3 hp⟩
  · exact .inr ⟨T, f, oT, hk _ _ n1 hz, hk _ _ t4 ht, t1, t2, t3, t4⟩
theorem zw_item {i : Nat} {x y : Value} {Q : Option Value → Shared → Prop} (D : ZipApart z TI TO i1 i2 l1 l2) (st : ZwSt s.heap z TI TO i1 i2 l1 l2 S i) (hS : S < s.heap.objs.size) (hl1 : s.heap.IsList l1 xs) (hl2 : s.heap.IsList l2 ys) (hx : xs[i]? = some x) (hy : ys[i]? = some y)
    (hQ : ∀ h', ZwSt h' z TI TO i1 i2 l1 l2 S (i + 1) → IsPair h' s.heap.objs.size x y → h'.objs.size = s.heap.objs.size + 1 → (∀ c o, c ≠ z → c ≠ TO → c ≠ i1 → c ≠ i2 → s.heap.get? c = some o → h'.get? c = some o) → Q (some (.ref s.heap.objs.size)) { s with heap := h' }) :
    wpAny (model prog w) A (pyNext (.ref z)) Q E s := by
  obtain ⟨a1, a2, a3, a4⟩ := st
  have l1_ : i1 < s.heap.objs.size := by obtain ⟨o, e, _⟩ := a2; exact Heap.lt_size e
  have l2_ : i2 < s.heap.objs.size := by obtain ⟨o, e, _⟩ := a3; exact Heap.lt_size e
  rcases a4 with ⟨e, hz, a, b, hp⟩ | ⟨T, f, oT, hz, ht, t1, t2, t3, t4⟩
  · refine wpAny_pyNext_zip_item D hz a1 hp a2 a3 hl1 hl2 hx hy fun h' b1 b2 b3 b4 b5 b6 b7 => ?_
    have lz := Heap.lt_size hz
    exact hQ h' ⟨b7 _ _ D.TIz D.TITO D.TIi1 D.TIi2 a1, b3, b4, .inr ⟨s.heap.objs.size, false, _, b1, b5, Nat.ne_of_gt lz, Nat.ne_of_gt l1_, Nat.ne_of_gt l2_, Nat.ne_of_gt hS⟩⟩ b5 b6 b7
  · refine wpAny_pyNext_zip_item_held D hz ht a1 a2 a3 hl1 hl2 hx hy fun h' b1 b3 b4 b5 b6 b7 => ?_
    exact hQ h' ⟨b7 _ _ D.TIz D.TIi1 D.TIi2 a1, b3, b4, .inr ⟨T, true, oT, b1, b7 _ _ t1 t2 t3 ht, t1, t2, t3, t4⟩⟩ b5 b6 fun c o c1 _ c3 c4 e => b7 c o c1 c3 c4 e
theorem zw_done {i : Nat} {Q : Option Value → Shared → Prop} (hh : A.handled = none) (D : ZipApart z TI TO i1 i2 l1 l2) (st : ZwSt s.heap z TI TO i1 i2 l1 l2 S i) (hl1 : s.heap.IsList l1 xs) (hl2 : s.heap.IsList l2 ys) (hx : xs[i]? = none)
    (hQ : ∀ h', (∀ c o, c ≠ z → c ≠ TO → c ≠ i1 → c ≠ i2 → s.heap.get? c = some o → h'.get? c = some o) → Q none { s with heap := h' }) :
    wpAny (model prog w) A (pyNext (.ref z)) Q E s := by
  obtain ⟨a1, a2, a3, a4⟩ := st
  rcases a4 with ⟨e, hz, a, b, hp⟩ | ⟨T, f, oT, hz, ht, t1, t2, t3, t4⟩
  · exact wpAny_pyNext_zip_end hh D hz a1 hp a2 a3 hl1 hl2 (.inl hx) hQ
  · exact wpAny_pyNext_zip_end_held hh D hz ht a1 a2 a3 hl1 hl2 (.inl hx) fun h' hk => hQ h' fun c o c1 _ c3 c4 e => hk c o c1 c3 c4 e
end
section
variable {prog : Program} {w : World} {A : Around} {s : Shared} {R : Result → Shared → Prop} {xs ys : Array Value} {z TI TO i1 i2 l1 l2 S : Addr}
theorem zw_loop (hh : A.handled = none) (D : ZipApart z TI TO i1 i2 l1 l2) (n1 : z ≠ S) (n2 : TI ≠ S) (n3 : TO ≠ S) (n4 : i1 ≠ S) (n5 : i2 ≠ S) (n6 : l1 ≠ S) (n7 : l2 ≠ S) {lo : Addr} (b1 : z ≤ lo) (b3 : TO ≤ lo) (b4 : i1 ≤ lo) (b5 : i2 ≤ lo) (b6 : S ≤ lo) (hl : ys.size = xs.size) (hn : xs.size ≤ sizeLine) (res : Value) {h₁ : Heap}
    (hR : ∀ h' tk acc c as, (∀ b o, b ≠ S → b ≠ z → b ≠ TO → b ≠ i1 → b ≠ i2 → h₁.get? b = some o → h'.get? b = some o) → h'.get? S = some { cls := .type "list", dict := none, data := .seq acc c, slots := #[] } → as.length = xs.size → ZwG xs ys lo h' as →
      acc.toList = as.map Value.ref → R (.ok (.ret res)) { s with heap := h', toks := tk }) :
    ∀ (k i : Nat) (h : Heap) (tk c : Nat) (acc : Array Value) (as : List Addr), xs.size - i = k → i ≤ xs.size → ZwSt h z TI TO i1 i2 l1 l2 S i → h.IsList l1 xs → h.IsList l2 ys → (∀ b o, b ≠ S → b ≠ z → b ≠ TO → b ≠ i1 → b ≠ i2 → h₁.get? b = some o → h.get? b = some o) →
      h.get? S = some { cls := .type "list", dict := none, data := .seq acc c, slots := #[] } → acc.toList = as.map Value.ref → as.length = i → ZwG xs ys lo h as → lo < h.objs.size →
      codeAny (model prog w) A (.builtin "list.extend.loop" ⟨[.ref S, .ref z, res], []⟩) R { s with heap := h, toks := tk } := by
  intro k
  induction k with
  | zero =>
    intro i h tk c acc as hk hi hst hL1 hL2 hkeep hS hacc hal hG hIs
    refine codeAny_builtin PySem.F.entry_extend_loop ?_
    rw [Around.under_plainId PySem.F.plain_extend_loop _]
    show wpAny _ A.in1 (pyNext (.ref z) >>= _) _ _ _
    refine wpAny_bind (zw_done (s := { s with heap := h, toks := tk }) (A := A.in1) hh D hst hL1 hL2 (Array.getElem?_eq_none (by omega)) fun h' he => ?_)
    refine wpAny_pure (hR h' tk acc c as (fun b o h1 h2 h3 h4 h5 e => he b o h2 h3 h4 h5 (hkeep b o h1 h2 h3 h4 h5 e)) (he S _ n1.symm n3.symm n4.symm n5.symm hS) (by omega) ⟨hG.rise, hG.above, fun j a hj => ?_⟩ hacc)
    obtain ⟨x, y, e1, e2, e3⟩ := hG.pairs j a hj
    have ab := hG.above a (List.mem_of_getElem? hj)
    exact ⟨x, y, e1, e2, he a _ (Nat.ne_of_gt (Nat.lt_of_le_of_lt b1 ab)) (Nat.ne_of_gt (Nat.lt_of_le_of_lt b3 ab)) (Nat.ne_of_gt (Nat.lt_of_le_of_lt b4 ab)) (Nat.ne_of_gt (Nat.lt_of_le_of_lt b5 ab)) e3⟩
  | succ k ih =>
    intro i h tk c acc as hk hi hst hL1 hL2 hkeep hS hacc hal hG hIs
    have hlt : i < xs.size := by omega
    obtain ⟨x, hx⟩ : ∃ p, xs[i]? = some p := ⟨xs[i], Array.getElem?_eq_getElem hlt⟩
    obtain ⟨y, hy⟩ : ∃ p, ys[i]? = some p := ⟨ys[i], Array.getElem?_eq_getElem (by omega)⟩
    have hsz : acc.size = i := by rw [← Array.length_toList, hacc, List.length_map, hal]
    refine codeAny_builtin PySem.F.entry_extend_loop ?_
    rw [Around.under_plainId PySem.F.plain_extend_loop _]
    show wpAny _ A.in1 (pyNext (.ref z) >>= _) _ _ _
    refine wpAny_bind (zw_item (s := { s with heap := h, toks := tk }) (S := S) D hst (Heap.lt_size hS) hL1 hL2 hx hy fun h' hst' ht hz hkp => ?_)
    dsimp only at ht hz hkp ⊢
    have hS' := hkp S _ n1.symm n3.symm n4.symm n5.symm hS
    have up : ∀ b o, b ≠ S → h'.get? b = some o → (h'.update S (Obj.mapSeq (·.push (Value.ref h.objs.size)))).get? b = some o := fun b o hb e => (Heap.get?_update_other _ _ (Ne.symm hb)).trans e
    have hSl : S < h.objs.size := Heap.lt_size hS
    show wpAny _ A.in1 (updateSeq S (·.push (Value.ref h.objs.size)) >>= _) _ _ _
    refine wpAny_bind ?_
    refine wpAny_updateSeq hS' rfl (wpAny_pure ⟨plainId_quiet PySem.F.plain_extend_loop _, ih (i + 1) _ tk _ (acc.push (Value.ref h.objs.size)) (as ++ [h.objs.size]) (by omega) hlt (zw_keep hst' up n1 n2 n3 n4 n5)
      (hL1.at fun o e => up l1 o n6 (hkp l1 o D.l1z D.l1TO D.l1i1 D.l1i2 e)) (hL2.at fun o e => up l2 o n7 (hkp l2 o D.l2z D.l2TO D.l2i1 D.l2i2 e))
      (fun b o h1 h2 h3 h4 h5 e => up b o h1 (hkp b o h2 h3 h4 h5 (hkeep b o h1 h2 h3 h4 h5 e))) (Heap.get?_update_self _ hS' rfl) (by rw [Array.toList_push, hacc, List.map_append]; rfl) (by rw [List.length_append, hal]; rfl) ⟨?_, ?_, ?_⟩ ?_⟩) (by rw [hsz]; omega) (by show (acc.push (Value.ref h.objs.size)).size ≤ sizeLine + 1; rw [Array.size_push, hsz]; omega)
    · refine List.pairwise_append.mpr ⟨hG.rise, List.pairwise_singleton _ _, fun a ha b hb => ?_⟩
      rw [List.mem_singleton.mp hb]
      exact hG.there ha
    · intro a ha
      rcases List.mem_append.mp ha with ha | ha
      · exact hG.above a ha
      · rw [List.mem_singleton.mp ha]; exact hIs
    · intro j b hj
      rcases Nat.lt_trichotomy j as.length with h1 | h1 | h1
      · rw [List.getElem?_append_left h1] at hj
        obtain ⟨x', y', e1, e2, e3⟩ := hG.pairs j b hj
        have ab := hG.above b (List.mem_of_getElem? hj)
        exact ⟨x', y', e1, e2, up b _ (Nat.ne_of_gt (Nat.lt_of_le_of_lt b6 ab)) (hkp b _ (Nat.ne_of_gt (Nat.lt_of_le_of_lt b1 ab)) (Nat.ne_of_gt (Nat.lt_of_le_of_lt b3 ab)) (Nat.ne_of_gt (Nat.lt_of_le_of_lt b4 ab)) (Nat.ne_of_gt (Nat.lt_of_le_of_lt b5 ab)) e3)⟩
      · subst h1
        have hb : h.objs.size = b := by simpa using hj
        subst hb
        exact ⟨x, y, by rw [hal]; exact hx, by rw [hal]; exact hy, up _ _ (Nat.ne_of_gt hSl) ht⟩
      · have hnone : (as ++ [h.objs.size])[j]? = none := List.getElem?_eq_none (by rw [List.length_append, List.length_singleton]; omega)
        rw [hnone] at hj; cases hj
    · have e : (h'.update S (Obj.mapSeq (·.push (Value.ref h.objs.size)))).get? h.objs.size = _ := up _ _ (Nat.ne_of_gt hSl) ht
      exact Nat.lt_trans hIs (Heap.lt_size e)
/-- no hint of the length -/
theorem zw_hint {M : Model} {E : Value → Shared → Prop} (hT : s.TypeIs (.ref z) "zip") {Q : Bool → Shared → Prop} (h : Q true s) : wpAny M A (Builtin.List.listLengthHint (.ref z)) Q E s := by
  unfold Builtin.List.listLengthHint
  refine wpAny_bind (wpAny_specialOf hT zw_nolen ?_)
  show wpAny _ A (specialOf (Value.ref z) (Str.ofString "__length_hint__") >>= _) _ _ _
  refine wpAny_bind (wpAny_specialOf hT zw_nohint ?_)
  exact wpAny_pure h
theorem zw_extend (hh : A.handled = none) (D : ZipApart z TI TO i1 i2 l1 l2) (n1 : z ≠ S) (n2 : TI ≠ S) (n3 : TO ≠ S) (n4 : i1 ≠ S) (n5 : i2 ≠ S) (n6 : l1 ≠ S) (n7 : l2 ≠ S) (b1 : z ≤ S) (b3 : TO ≤ S) (b4 : i1 ≤ S) (b5 : i2 ≤ S) (hl : ys.size = xs.size) (hn : xs.size ≤ sizeLine) (res : Value) (c₀ : Nat)
    (hz : IsZip s.heap z TI TO .none) (hst : ZwSt s.heap z TI TO i1 i2 l1 l2 S 0) (hL1 : s.heap.IsList l1 xs) (hL2 : s.heap.IsList l2 ys) (hS : s.heap.get? S = some { cls := .type "list", data := .seq #[] c₀ })
    (hR : ∀ h' tk acc c as, (∀ b o, b ≠ S → b ≠ z → b ≠ TO → b ≠ i1 → b ≠ i2 → s.heap.get? b = some o → h'.get? b = some o) → h'.get? S = some { cls := .type "list", dict := none, data := .seq acc c, slots := #[] } → as.length = xs.size → ZwG xs ys S h' as →
      acc.toList = as.map Value.ref → R (.ok (.ret res)) { s with heap := h', toks := tk }) :
    wpAny (model prog w) A.in1 (Builtin.List.listExtendWith (.ref S) (.ref z) res)
      (fun fin s' => match fin with | .done f => R (.ok f) s' | .again c' => c'.quiet = true ∧ codeAny (model prog w) A c' R s') (fun e s' => R (.error e) s') s := by
  have hT : s.TypeIs (.ref z) "zip" := ⟨_, hz, rfl⟩
  unfold Builtin.List.listExtendWith
  refine wpAny_bind (wpAny_typeOf (T := "zip") hT ?_)
  have h1 : Builtin.List.listSameRef (.ref S) (.ref z) = false := by simp [Builtin.List.listSameRef, n1.symm]
  have h2 : (Value.type "zip" == Value.type "list") = false := by decide
  have h3 : (Value.type "zip" == Value.type "tuple") = false := by decide
  simp only [h1, h2, h3, Bool.or_false, Bool.false_eq_true, if_false]
  refine wpAny_bind (wpAny_pyIter_zip hz ?_)
  refine wpAny_bind (wpAny_holding (zw_hint hT ?_))
  refine wpAny_ite_split (fun _ => ?_) (fun h => absurd rfl h)
  refine wpAny_bind (wpAny_rule ?_)
  refine wpAny_bind ?_
  show wpAny _ _ (updateSeq S (·.push .none) >>= fun _ => updateSeq S (·.pop)) _ _ _
  refine wpAny_bind (wpAny_updateSeq hS rfl ?_)
  have hS₂ := Heap.get?_update_self (Obj.mapSeq (·.push Value.none)) hS rfl
  refine wpAny_updateSeq (hz := by seq_fits) hS₂ rfl ?_
  have hS₃ := Heap.get?_update_self (Obj.mapSeq (·.pop)) hS₂ rfl
  have oth : ∀ b o, b ≠ S → s.heap.get? b = some o → ((s.heap.update S (Obj.mapSeq (·.push Value.none))).update S (Obj.mapSeq (·.pop))).get? b = some o := fun b o hb e => (Heap.get?_update_other _ _ (Ne.symm hb)).trans ((Heap.get?_update_other _ _ (Ne.symm hb)).trans e)
  refine wpAny_pure ⟨plainId_quiet PySem.F.plain_extend_loop _, zw_loop (h₁ := s.heap) hh D n1 n2 n3 n4 n5 n6 n7 (lo := S) b1 b3 b4 b5 (Nat.le_refl _) hl hn res hR xs.size 0 _ _ _ #[] [] (Nat.sub_zero _) (Nat.zero_le _) (zw_keep hst oth n1 n2 n3 n4 n5) (hL1.at fun o e => oth _ o n6 e) (hL2.at fun o e => oth _ o n7 e) (fun b o hb _ _ _ _ e => oth b o hb e) hS₃ rfl rfl
    ⟨List.Pairwise.nil, (fun _ ha => nomatch ha), (fun j a hj => by simp at hj)⟩ (Heap.lt_size hS₃)⟩
end
section
variable {prog : Program} {w : World} {A : Around} {E : Value → Shared → Prop} {s : Shared} {xs ys : Array Value} {z TI TO i1 i2 l1 l2 : Addr}
theorem zw_call {Q : Value → Shared → Prop} (hh : A.handled = none) (D : ZipApart z TI TO i1 i2 l1 l2) (hl : ys.size = xs.size) (hn : xs.size ≤ sizeLine)
    (hz : IsZip s.heap z TI TO .none) (hTI : IsPair s.heap TI (.ref i1) (.ref i2)) (hTO : IsPair s.heap TO .none .none) (f1 : s.heap.IsListIter i1 l1 0) (f2 : s.heap.IsListIter i2 l2 0) (hL1 : s.heap.IsList l1 xs) (hL2 : s.heap.IsList l2 ys)
    (hQ : ∀ h' tk acc c as, (∀ b o, b ≠ z → b ≠ TO → b ≠ i1 → b ≠ i2 → s.heap.get? b = some o → h'.get? b = some o) → h'.get? s.heap.objs.size = some { cls := .type "list", dict := none, data := .seq acc c, slots := #[] } → as.length = xs.size → ZwG xs ys s.heap.objs.size h' as →
      acc.toList = as.map Value.ref → Q (.ref s.heap.objs.size) { s with heap := h', toks := tk }) :
    wpAny (model prog w) A (call (.type "list") [.ref z]) Q E s := by
  refine callType_codes (Q₁ := fun obj s₁ => obj = .ref s.heap.objs.size ∧ s₁ = { s with heap := s.heap.push { cls := .type "list", data := .seq #[] } }) PySem.F.called_list (PySem.F.typeCall_list_1 _) PySem.F.entry_list_init
    (code_list_new _ ⟨rfl, rfl⟩) fun obj s₁ h₁ => ?_
  obtain ⟨rfl, rfl⟩ := h₁
  have hS : (s.heap.push { cls := .type "list", data := .seq #[] }).get? s.heap.objs.size = some { cls := .type "list", data := .seq #[] } := Heap.get?_push_size _ rfl
  have up : ∀ b o, s.heap.get? b = some o → (s.heap.push { cls := .type "list", data := .seq #[] }).get? b = some o := fun b o e => Heap.get?_push_of_some _ e
  have lz := Heap.lt_size hz
  have lTI := Heap.lt_size hTI
  have lTO := Heap.lt_size hTO
  have li1 : i1 < s.heap.objs.size := by obtain ⟨o, e, _⟩ := f1; exact Heap.lt_size e
  have li2 : i2 < s.heap.objs.size := by obtain ⟨o, e, _⟩ := f2; exact Heap.lt_size e
  have ll1 : l1 < s.heap.objs.size := by obtain ⟨o, e, _⟩ := hL1; exact Heap.lt_size e
  have ll2 : l2 < s.heap.objs.size := by obtain ⟨o, e, _⟩ := hL2; exact Heap.lt_size e
  refine ⟨⟨_, hS, rfl⟩, PySem.F.args_list_init_2 _ _, ?_⟩
  show wpAny _ _ (do let old ← Builtin.List.listItems (.ref s.heap.objs.size); Builtin.List.listUpdate (.ref s.heap.objs.size) (fun _ => #[]); letGo old.toList.reverse; Builtin.List.listExtendWith (.ref s.heap.objs.size) (.ref z) .none) _ _ _
  refine wpAny_bind ?_
  unfold Builtin.List.listItems
  refine wpAny_bind (wpAny_seqItems hS rfl (wpAny_pure ?_))
  show wpAny _ _ (updateSeq s.heap.objs.size (fun _ => #[]) >>= fun _ => letGo (#[] : Array Value).toList.reverse >>= fun _ => Builtin.List.listExtendWith (.ref s.heap.objs.size) (.ref z) .none) _ _ _
  refine wpAny_bind (wpAny_updateSeq hS rfl ?_)
  have hS₂ := Heap.get?_update_self (Obj.mapSeq (fun _ => (#[] : Array Value))) hS rfl
  have oth : ∀ b o, b ≠ s.heap.objs.size → s.heap.get? b = some o → ((s.heap.push { cls := .type "list", data := .seq #[] }).update s.heap.objs.size (Obj.mapSeq (fun _ => (#[] : Array Value)))).get? b = some o :=
    fun b o hb e => (Heap.get?_update_other _ _ (Ne.symm hb)).trans (up b o e)
  refine wpAny_bind (wpAny_letGo ?_)
  refine zw_extend (A := A.in1) hh D (Nat.ne_of_lt lz) (Nat.ne_of_lt lTI) (Nat.ne_of_lt lTO) (Nat.ne_of_lt li1) (Nat.ne_of_lt li2) (Nat.ne_of_lt ll1) (Nat.ne_of_lt ll2) (Nat.le_of_lt lz) (Nat.le_of_lt lTO) (Nat.le_of_lt li1) (Nat.le_of_lt li2) hl hn .none _
    (oth _ _ (Nat.ne_of_lt lz) hz) ⟨oth _ _ (Nat.ne_of_lt lTI) hTI, f1.at fun o e => oth _ o (Nat.ne_of_lt li1) e, f2.at fun o e => oth _ o (Nat.ne_of_lt li2) e, .inl ⟨rfl, oth _ _ (Nat.ne_of_lt lz) hz, _, _, oth _ _ (Nat.ne_of_lt lTO) hTO⟩⟩
    (hL1.at fun o e => oth _ o (Nat.ne_of_lt ll1) e) (hL2.at fun o e => oth _ o (Nat.ne_of_lt ll2) e) hS₂ fun h' tk acc c as hk hS' hl' hG hacc => ?_
  exact ⟨rfl, hQ h' tk acc c as (fun b o c1 c2 c3 c4 e => hk b o (Nat.ne_of_lt (Heap.lt_size e)) c1 c2 c3 c4 (oth b o (Nat.ne_of_lt (Heap.lt_size e)) e)) hS' hl' hG hacc⟩
end
/-- the tuples tracked at their addresses -/
def putZ : Hp → List Addr → List (V × V) → Hp
  | H, a :: as, p :: ps => putZ (upd H a (.tup [p.1, p.2])) as ps
  | H, _, _ => H
theorem putZ_off {b : Addr} : ∀ (as : List Addr) (ps : List (V × V)) (H : Hp), b ∉ as → putZ H as ps b = H b
  | [], _, _, _ => rfl
  | _ :: _, [], _, _ => rfl
  | a :: as, p :: ps, H, h => by
    show putZ (upd H a (.tup [p.1, p.2])) as ps b = H b
    rw [putZ_off as ps _ (fun z => h (List.mem_cons_of_mem _ z)), upd_ne (fun z => h (by rw [z]; exact List.mem_cons_self))]
theorem putZ_at : ∀ (as : List Addr) (ps : List (V × V)) (H : Hp), as.length = ps.length → as.Nodup → ∀ (j : Nat) (a : Addr) (p : V × V), as[j]? = some a → ps[j]? = some p → putZ H as ps a = some (.tup [p.1, p.2])
  | [], _, _, _, _, j, a, p, h, _ => by simp at h
  | _ :: _, [], _, h, _, _, _, _, _, _ => by cases h
  | b :: as, q :: ps, H, h, hn, j, a, p, h1, h2 => by
    have hn' := List.nodup_cons.mp hn
    cases j with
    | zero =>
      cases h1; cases h2
      show putZ (upd H b (.tup [q.1, q.2])) as ps b = _
      rw [putZ_off as ps _ hn'.1, upd_same]
    | succ j =>
      exact putZ_at as ps (upd H b (.tup [q.1, q.2])) (Nat.succ.inj h) hn'.2 j a p h1 h2
section
variable {X : Cx} {pins : List (Addr × Obj)} {σ : L2.St} {H : Hp} {s : Shared}
theorem zip_laid {h' : Heap} {tk : Nat} {xs ys : List V} {us vs : List Value} {acc : Array Value} {c : Nat} {as : List Addr} {S : Addr} (I : Inv X pins σ H s) (hz : xs.length ≤ sizeLine) (ru : Vals xs us) (rv : Vals ys vs) (hl : ys.length = xs.length)
    (hk : ∀ b o, s.heap.get? b = some o → h'.get? b = some o) (hSl : s.heap.objs.size ≤ S) (hS : h'.get? S = some { cls := .type "list", dict := none, data := .seq acc c, slots := #[] }) (hla : as.length = xs.length) (hG : ZwG us.toArray vs.toArray S h' as) (hacc : acc.toList = as.map Value.ref) :
    ∃ H' : Hp, (∀ b o, H b = some o → H' b = some o) ∧ H S = none ∧ (∀ t ∈ as, H t = none) ∧ S ∉ as ∧ H' S = some (.lst (as.map V.ref)) ∧ (∀ (j : Nat) (t : Addr), as[j]? = some t → ∃ x y, xs[j]? = some x ∧ ys[j]? = some y ∧ H' t = some (.tup [x, y])) ∧ Inv X pins σ H' { s with heap := h', toks := tk } := by
  have lz : (xs.zip ys).length = xs.length := by rw [List.length_zip]; omega
  have hSn : S ∉ as := fun z => Nat.lt_irrefl _ (hG.above _ z)
  have nd : as.Nodup := List.Pairwise.imp (fun {a b} (h : a < b) => Nat.ne_of_lt h) hG.rise
  have new : ∀ t ∈ as, H t = none := fun t ht => I.hok.fresh (Nat.le_of_lt (Nat.lt_of_le_of_lt hSl (hG.above t ht)))
  have newS : H S = none := I.hok.fresh hSl
  have atP := putZ_at as (xs.zip ys) (upd H S (.lst (as.map V.ref))) (by omega) nd
  have off : ∀ b, b ∉ as → b ≠ S → putZ (upd H S (.lst (as.map V.ref))) as (xs.zip ys) b = H b := fun b h1 h2 => by rw [putZ_off as _ _ h1, upd_ne h2]
  have low : ∀ b o, s.heap.get? b = some o → b ∉ as ∧ b ≠ S := fun b o e => ⟨fun z => absurd (Heap.lt_size e) (Nat.not_lt.mpr (Nat.le_of_lt (Nat.lt_of_le_of_lt hSl (hG.above b z)))), Nat.ne_of_lt (Nat.lt_of_lt_of_le (Heap.lt_size e) hSl)⟩
  have kp : ∀ b u, H b = some u → (putZ (upd H S (.lst (as.map V.ref))) as (xs.zip ys)) b = some u := fun b u e => by
    rw [off b (fun z => by rw [new b z] at e; cases e) (fun z => by rw [z, newS] at e; cases e)]
    exact e
  have eS : putZ (upd H S (.lst (as.map V.ref))) as (xs.zip ys) S = some (.lst (as.map V.ref)) := by rw [putZ_off as _ _ hSn, upd_same]
  have at2 : ∀ (j : Nat) (t : Addr), as[j]? = some t → ∃ x y, xs[j]? = some x ∧ ys[j]? = some y ∧ putZ (upd H S (.lst (as.map V.ref))) as (xs.zip ys) t = some (.tup [x, y]) := fun j t hj => by
    have lj : j < as.length := (List.getElem?_eq_some_iff.mp hj).1
    have g1 : xs[j]? = some xs[j] := List.getElem?_eq_getElem (by omega)
    have g2 : ys[j]? = some (ys[j]'(by omega)) := List.getElem?_eq_getElem (by omega)
    refine ⟨_, _, g1, g2, ?_⟩
    exact atP j t (xs[j]'(by omega), ys[j]'(by omega)) hj (by rw [List.getElem?_zip_eq_some]; exact ⟨g1, g2⟩)
  refine ⟨putZ (upd H S (.lst (as.map V.ref))) as (xs.zip ys), kp, newS, new, hSn, eS, at2, ?_⟩
  refine I.call' (ch := []) rfl ⟨fun b o q _ _ _ => hk b o q, fun b o q _ _ _ => ⟨o.slots, hk b o q⟩, fun b o q n _ => ?_, fun b o q _ => ⟨o, hk b o q⟩, fun b xs q => kp b _ q, fun b o u q => kp b _ q, fun b ps q => ⟨#[], by rw [kp b _ q]; simp⟩⟩ (fun b u q => ?_) I.bare fun b z => by simp at z
  · obtain ⟨z1, z2⟩ := low b o q
    rw [off b z1 z2]
    exact n
  · by_cases hb : b ∈ as
    · obtain ⟨j, hj⟩ := List.mem_iff_getElem?.mp hb
      obtain ⟨x, y, e1, e2, e3⟩ := at2 j b hj
      rw [e3] at q
      cases q
      obtain ⟨u, v, f1, f2, f3⟩ := hG.pairs j b hj
      obtain ⟨u', g1, r1⟩ := ru.get e1
      obtain ⟨v', g2, r2⟩ := rv.get e2
      have f1 : us[j]? = some u := by simpa using f1
      have f2 : vs[j]? = some v := by simpa using f2
      rw [f1] at g1; rw [f2] at g2
      cases g1; cases g2
      exact ⟨by show 2 ≤ sizeLine; decide, [u, v], .cons r1 (.cons r2 .nil), ⟨_, f3, rfl, _, rfl⟩⟩
    · by_cases hb2 : b = S
      · rw [hb2] at q ⊢
        rw [eS] at q
        cases q
        refine ⟨by rw [List.length_map]; omega, acc.toList, c, by rw [hacc]; exact LiI.vals_refs as, ?_⟩
        rw [Array.toArray_toList]
        exact hS
      · rw [off b hb hb2] at q
        exact (I.hok b u q).stay (fun d v _ y => hk d v y) (fun d y => kp d _ y) fun d xs y => kp d _ y
end
def tListZip (K : PySem.W.Frag) (ta tb : TE) : TE := fun σ H Q => ta σ H fun x H1 => tb σ H1 fun y H2 => ∃ (a b : Addr) (xs ys : List V), x = .ref a ∧ y = .ref b ∧ SqL K H2 a xs ∧ SqL K H2 b ys ∧ ys.length = xs.length ∧
  ∀ (H' : Hp) (p : Addr) (ts : List Addr), (∀ b o, H2 b = some o → H' b = some o) → H2 p = none → (∀ t ∈ ts, H2 t = none) → p ∉ ts → ts.length = xs.length → H' p = some (.lst (ts.map V.ref)) → (∀ (j : Nat) (t : Addr), ts[j]? = some t → ∃ x y, xs[j]? = some x ∧ ys[j]? = some y ∧ H' t = some (.tup [x, y])) → Q (.ref p) H'
section
variable {X : Cx} {K : PySem.W.Frag} {e e2 : Expr} {ta tb : TE} {p pz zpos pos : Pos}
theorem pe_listZip0 (hc : X.calm = true) (ha : PE X e ta) (hb : PE X e2 tb) (hg : Gl X "list") (hm : X.mg "list" = none) (hg2 : Gl X "zip") (hm2 : X.mg "zip" = none) (hv : bootBuiltins "list" = some (.type "list"))
    (na : starEach [e, e2] X.env = (false, eval e X.env) :: starEach [e2] X.env) (nb : starEach [e2] X.env = (false, eval e2 X.env) :: starEach [] X.env) (hp : (backTo zpos (starEach [e2] X.env)).any (·.1) = false) :
    PE X (.Call (.Name "list" p) [.Call (.Name "zip" pz) [e, e2] [] zpos] [] pos) (tListZip X.K ta tb) := by
  refine ⟨fun pins s σ H Q I h => ?_⟩
  refine Call_ (ld_blt I hg hm hv ?_)
  refine PyProof.Rows.callWith_type1 (PyProof.Rows.args_cons ?_ rfl) rfl rfl
  refine Call_ (ld_blt I hg2 hm2 PyProof.Rows.boot_zip ?_)
  refine PyProof.Rows.callWith_type1 (PyProof.Rows.args_cons (thn (ha.run pins s σ H _ I h) fun v s1 ⟨x, H1, I1, r1, q1⟩ => ?_) na) na hp
  refine PyProof.Rows.args_cons (thn (hb.run pins s1 σ H1 _ I1 q1) fun v2 s2 ⟨y, H2, I2, r2, q2⟩ => PyProof.Rows.args_nil ?_) nb
  obtain ⟨a, b, xs, ys, rfl, rfl, hqa, hqb, hl, q⟩ := q2
  cases r1
  cases r2
  obtain ⟨its1, ru, p1, hz1⟩ := I2.list hqa
  obtain ⟨its2, rv, p2, hz2⟩ := I2.list hqb
  have l1 := p1.lt
  have l2 := p2.lt
  have e1 := ru.length
  have e2 := rv.length
  refine call_zip_2 p1.isList p2.isList fun h' hz hTI hTO f1 f2 hsz hk => PyProof.Rows.args_nil ?_
  have D : ZipApart (s2.heap.objs.size + 4) (s2.heap.objs.size + 2) (s2.heap.objs.size + 3) s2.heap.objs.size (s2.heap.objs.size + 1) a b := by
    constructor <;> first | exact Nat.ne_of_lt (Nat.lt_of_lt_of_le l1 (Nat.le_add_right _ _)) | exact Nat.ne_of_lt (Nat.lt_of_lt_of_le l2 (Nat.le_add_right _ _)) | exact Nat.ne_of_lt l1 | exact Nat.ne_of_lt l2 | (show (_ : Nat) ≠ _; omega)
  refine zw_call (s := { s2 with heap := h' }) (I2.ok.hd hc) D (by rw [List.size_toArray, List.size_toArray]; omega) (by rw [List.size_toArray]; omega) hz hTI hTO f1 f2 (p1.isList.at fun o e => hk _ o e) (p2.isList.at fun o e => hk _ o e) fun h2 tk acc c as hk2 hS hla hG hacc => ?_
  dsimp only at hS hG ⊢
  have hk3 : ∀ b o, s2.heap.get? b = some o → h2.get? b = some o := fun b o e => by
    have lb := Heap.lt_size e
    exact hk2 b o (Nat.ne_of_lt (Nat.lt_of_lt_of_le lb (Nat.le_add_right _ _))) (Nat.ne_of_lt (Nat.lt_of_lt_of_le lb (Nat.le_add_right _ _))) (Nat.ne_of_lt lb) (Nat.ne_of_lt (Nat.lt_of_lt_of_le lb (Nat.le_add_right _ _))) (hk b o e)
  obtain ⟨H', k1, k2, k3, k4, k5, k6, J⟩ := zip_laid (tk := tk) I2 (by omega) ru rv hl hk3 (by rw [hsz]; omega) hS (by rw [hla, List.size_toArray]; omega) hG hacc
  exact ⟨.ref _, H', J, rfl, q H' _ as k1 k2 k3 k4 (by rw [hla, List.size_toArray]; omega) k5 k6⟩
theorem pe_listZip (ha : PE X e ta) (hb : PE X e2 tb) (hg : Gl X "list") (hm : X.mg "list" = none) (hg2 : Gl X "zip") (hm2 : X.mg "zip" = none) (h : X.K = K := by rfl) (hc : X.calm = true := by rfl)
    (na : starEach [e, e2] X.env = (false, eval e X.env) :: starEach [e2] X.env := by rfl) (nb : starEach [e2] X.env = (false, eval e2 X.env) :: starEach [] X.env := by rfl) (hp : (backTo zpos (starEach [e2] X.env)).any (·.1) = false := by rfl) :
    PE X (.Call (.Name "list" p) [.Call (.Name "zip" pz) [e, e2] [] zpos] [] pos) (tListZip K ta tb) := h ▸ pe_listZip0 hc ha hb hg hm hg2 hm2 boot_list na nb hp
end
/-! ### xs[lo::step] -/
def pickV (xs : List V) (lo st : Option Int) : List V := (sliceRange (sliceBounds lo none st xs.length).1 (sliceBounds lo none st xs.length).2.1 (sliceBounds lo none st xs.length).2.2).filterMap (xs[·]?)
theorem pick_vals {xs : List V} {us : List Value} (r : Vals xs us) : ∀ is : List Nat, Vals (is.filterMap (xs[·]?)) (is.filterMap (us.toArray[·]?))
  | [] => .nil
  | i :: is => by
    have ih := pick_vals r is
    have e : us.toArray[i]? = us[i]? := by simp
    cases h : xs[i]? with
    | none =>
      have h2 : us[i]? = none := by
        rw [List.getElem?_eq_none_iff] at h ⊢
        have := r.length
        omega
      rw [List.filterMap_cons_none h, List.filterMap_cons_none (by rw [e]; exact h2)]
      exact ih
    | some x =>
      obtain ⟨u, g, ru⟩ := r.get h
      rw [List.filterMap_cons_some h, List.filterMap_cons_some (by rw [e]; exact g)]
      exact .cons ru ih
def tStepF (K : PySem.W.Frag) (te : TE) (tl ts : L2.St → Hp → (Option Int → Hp → Prop) → Prop) : TE := fun σ H Q => te σ H fun x H1 => tl σ H1 fun l H2 => ts σ H2 fun o H3 => ∃ i : Int, o = some i ∧ i ≠ 0 ∧ ∃ (a : Addr) (xs : List V), x = .ref a ∧ SqL K H3 a xs ∧ ∀ p, H3 p = none → Q (.ref p) (upd H3 p (.lst (pickV xs l (some i))))
section
variable {X : Cx} {K : PySem.W.Frag}
theorem pe_stepF0 {e st : Expr} {lo : Option Expr} {te : TE} {tl ts : L2.St → Hp → (Option Int → Hp → Prop) → Prop} {p3 pos : Pos} (he : PE X e te) (hlo : PO X lo tl) (hst : PO X (some st) ts) : PE X (.Subscript e (.Slice lo none (some st) p3) pos) (tStepF X.K te tl ts) := by
  refine ⟨fun pins s σ H Q I h => ?_⟩
  refine Subscript_ (thn (he.run pins s σ H _ I h) fun v s1 ⟨x, H1, I1, r1, q1⟩ => ?_)
  refine wpAny_Slice (thn (hlo.run pins s1 σ H1 _ I1 q1) fun vl s2 ⟨l, H2, I2, pl, q2⟩ => ?_)
  refine thn (po_none.run pins s2 σ H2 (fun o H3 => o = none ∧ H3 = H2) I2 ⟨rfl, rfl⟩) fun vu s3 ⟨u, H3, I3, pu, eu, e3⟩ => ?_
  subst eu e3
  refine thn (hst.run pins s3 σ H3 _ I3 q2) fun vs s4 ⟨o, H4, I4, ps, i, eo, i0, a, xs, ex, hx, q⟩ => ?_
  subst eo ex
  cases r1
  have I5 : Inv X pins σ H4 { s4 with heap := s4.heap.push { cls := .type "slice", data := .fields #[vl, vu, vs] } } := I4.kept (t' := s4.toks) fun b ob q => Heap.get?_push_of_some _ q
  obtain ⟨its, r, ht, hz⟩ := I5.list hx
  have hlen := r.length
  show wpAny (model X.prog X.w) X.A (subscriptTail e (.Slice lo none (some st) p3) (.ref a) (.ref s4.heap.objs.size)) (EP X pins σ Q) X.xe { s4 with heap := s4.heap.push { cls := .type "slice", data := .fields #[vl, vu, vs] } }
  refine tail_any (ops := [.ref a, .ref s4.heap.objs.size]) ht.isList.typeIs (PySem.slot_list_getitem.lookup) ?_ (by with_unfolding_all rfl)
  refine wpAny_getItem_list_slice ht.isList (Heap.IsSliceOf.new _ vl vu vs) pl pu ps (fun z => i0 (Option.some.inj z)) ?_ (by rw [List.size_toArray]; omega)
  have q := q _ (I5.hok.fresh (Nat.le_refl _))
  have e1 : (slicePick its.toArray l none (some i)) = ((sliceRange (sliceBounds l none (some i) xs.length).1 (sliceBounds l none (some i) xs.length).2.1 (sliceBounds l none (some i) xs.length).2.2).filterMap (its.toArray[·]?)).toArray := by
    unfold slicePick
    rw [List.size_toArray, ← hlen]
  have hsz := slicePick_size_le its.toArray l none (some i)
  rw [e1] at hsz ⊢
  have rv : Vals (pickV xs l (some i)) _ := pick_vals r _
  refine ⟨.ref _, _, I5.laid (t' := s4.toks) (o := .lst (pickV xs l (some i))) (fun b ob q => Heap.get?_push_of_some _ q) (Nat.le_refl _) ?_, rfl, q⟩
  refine ⟨?_, _, 0, rv, Heap.get?_push_size _ rfl⟩
  have := rv.length
  rw [List.size_toArray, List.size_toArray] at hsz
  omega
theorem pe_stepF {e st : Expr} {lo : Option Expr} {te : TE} {tl ts : L2.St → Hp → (Option Int → Hp → Prop) → Prop} {p3 pos : Pos} (he : PE X e te) (hlo : PO X lo tl) (hst : PO X (some st) ts) (h : X.K = K := by rfl) : PE X (.Subscript e (.Slice lo none (some st) p3) pos) (tStepF K te tl ts) := h ▸ pe_stepF0 he hlo hst
end
/-- every second one of an even many -/
theorem pick_even {xs : List V} {n : Nat} (h : xs.length = 2 * n) : pickV xs none (some 2) = (List.range n).map fun i => xs.getD (2 * i) .non := by
  unfold pickV
  rw [h]
  have e : sliceRange (sliceBounds none none (some 2) (2 * n)).1 (sliceBounds none none (some 2) (2 * n)).2.1 (sliceBounds none none (some 2) (2 * n)).2.2 = (List.range n).map (2 * ·) := by
    show sliceRange 0 (((2 * n : Nat)) : Int) 2 = _
    unfold sliceRange
    have hc : (if (2 : Int) > 0 then (if (0 : Int) < ((2 * n : Nat) : Int) then (((2 * n : Nat) : Int) - 0 + 2 - 1) / 2 else 0) else (if (0 : Int) > ((2 * n : Nat) : Int) then (0 - ((2 * n : Nat) : Int) - 2 - 1) / (-2) else 0)).toNat = n := by
      rw [if_pos (by decide)]
      split <;> omega
    show (List.range (if (2 : Int) > 0 then _ else _ : Int).toNat).map _ = _
    rw [hc]
    exact List.map_congr_left fun k _ => by omega
  rw [e, List.filterMap_map]
  have : ∀ is : List Nat, (∀ i ∈ is, i < n) → is.filterMap ((fun i => xs[i]?) ∘ (2 * ·)) = is.map fun i => xs.getD (2 * i) .non := by
    intro is
    induction is with
    | nil => intro _; rfl
    | cons i is ih =>
      intro hi
      have li := hi i List.mem_cons_self
      have g : xs[2 * i]? = some (xs.getD (2 * i) .non) := by rw [List.getD_eq_getElem?_getD, List.getElem?_eq_getElem (show 2 * i < xs.length by omega)]; rfl
      rw [List.filterMap_cons_some (b := xs.getD (2 * i) .non) (by exact g), List.map_cons, ih fun j hj => hi j (List.mem_cons_of_mem _ hj)]
  exact this _ fun i hi => List.mem_range.mp hi
theorem pick_odd {xs : List V} {n : Nat} (h : xs.length = 2 * n) (n1 : 1 ≤ n) : pickV xs (some 1) (some 2) = (List.range n).map fun i => xs.getD (2 * i + 1) .non := by
  unfold pickV
  rw [h]
  have e : sliceRange (sliceBounds (some 1) none (some 2) (2 * n)).1 (sliceBounds (some 1) none (some 2) (2 * n)).2.1 (sliceBounds (some 1) none (some 2) (2 * n)).2.2 = (List.range n).map (2 * · + 1) := by
    have e1 : sliceBounds (some 1) none (some 2) (2 * n) = (1, ((2 * n : Nat) : Int), 2) := by
      have hm : max (0 : Int) (min 1 ((2 * n : Nat) : Int)) = 1 := by omega
      show (max (0 : Int) (min 1 ((2 * n : Nat) : Int)), ((2 * n : Nat) : Int), (2 : Int)) = _
      rw [hm]
    rw [e1]
    show sliceRange 1 (((2 * n : Nat)) : Int) 2 = _
    unfold sliceRange
    have hc : (if (2 : Int) > 0 then (if (1 : Int) < ((2 * n : Nat) : Int) then (((2 * n : Nat) : Int) - 1 + 2 - 1) / 2 else 0) else (if (1 : Int) > ((2 * n : Nat) : Int) then (1 - ((2 * n : Nat) : Int) - 2 - 1) / (-2) else 0)).toNat = n := by
      rw [if_pos (by decide)]
      split <;> omega
    show (List.range (if (2 : Int) > 0 then _ else _ : Int).toNat).map _ = _
    rw [hc]
    exact List.map_congr_left fun k _ => by omega
  rw [e, List.filterMap_map]
  have : ∀ is : List Nat, (∀ i ∈ is, i < n) → is.filterMap ((fun i => xs[i]?) ∘ (2 * · + 1)) = is.map fun i => xs.getD (2 * i + 1) .non := by
    intro is
    induction is with
    | nil => intro _; rfl
    | cons i is ih =>
      intro hi
      have li := hi i List.mem_cons_self
      have g : xs[2 * i + 1]? = some (xs.getD (2 * i + 1) .non) := by rw [List.getD_eq_getElem?_getD, List.getElem?_eq_getElem (show 2 * i + 1 < xs.length by omega)]; rfl
      rw [List.filterMap_cons_some (b := xs.getD (2 * i + 1) .non) (by exact g), List.map_cons, ih fun j hj => hi j (List.mem_cons_of_mem _ hj)]
  exact this _ fun i hi => List.mem_range.mp hi
end Pot

namespace Pot
open PySem PySem.Spec PyProof.Rows L2
section
variable {X : Cx} {K : PySem.W.Frag}
/-- len of a set of ints -/
def rLenSet (w : World) : List V → Hp → VK → Prop := fun xs H Q => ∃ (a : Addr) (S : Int → Bool) (n : Nat), xs = [V.ref a] ∧ H a = some (SetO w a S n) ∧ Q (.int n) H
theorem cr_lenSet : CallR X (.builtin "len") (rLenSet X.w) := by
  intro pins s σ H vs us Q I r h
  obtain ⟨a, S, n, rfl, ha, q⟩ := h
  rw [Vals.ref1 r]
  obtain ⟨o, es, ep, t, ho, hex, hd, _, _, _, hb, hf, rfl, _⟩ := setO_get I ha
  exact PySem.call_len_set ho hex hd hf (by unfold scanBound at hb; omega) ⟨.int _, H, I.tok _, ⟨_, rfl⟩, q⟩
theorem kc_lenSet {w : World} (hw : X.w = w := by rfl) : CallR X (.builtin "len") (rLenSet w) := by subst hw; exact cr_lenSet
/-- repr of any data -/
def rReprA (K : PySem.W.Frag) : List V → Hp → VK → Prop := fun xs H Q => ∃ (x : V) (d : PyData), xs = [x] ∧ Dp K H x d ∧ fineAll.fine d ∧ d.depth ≤ 60 ∧ costAll.cost d ≤ 16777216 ∧ Q (.str d.shown) H
theorem cr_reprA (gd : X.A.guards = some []) (hu : X.A.units + 64 < cLine) : CallR X (.builtin "repr") (rReprA X.K) := by
  intro pins s σ H vs us Q I r h
  obtain ⟨x, d, rfl, dp, sh, dep, sz, q⟩ := h
  obtain ⟨u, rfl, rx⟩ := vals1 r
  have sz2 := Nat.le_trans (shown_len d sh) (by rw [sizeLine_eq]; exact sz : costAll.cost d ≤ sizeLine)
  cases x with
  | ref a =>
    cases rx
    obtain ⟨as, rd⟩ := Dp.reads I d (.ref a) (.ref a) dp rfl
    refine repr_of_reads' rd (fine_show d sh) (fun z => ?_) gd (by omega) (fun _ _ e => e) (fun h' u tk k => ⟨.str d.shown, H, I.kept k, ⟨u, rfl⟩, q⟩) sz2
    rw [dp_noDict dp] at z
    cases z
  | int i =>
    cases dp
    obtain ⟨t, rfl⟩ := rx
    exact PySem.P.repr_of_int sh ⟨.str _, H, I.tok _, ⟨_, rfl⟩, q⟩
  | str z =>
    cases dp
    obtain ⟨t, rfl⟩ := rx
    exact PySem.P.repr_of_str ⟨.str _, H, I.tok _, ⟨_, rfl⟩, q⟩ sz2
  | bl b =>
    cases dp
    cases rx
    refine PySem.P.repr_of_bool ⟨.str _, H, I.tok _, ⟨_, rfl⟩, ?_⟩
    exact q
  | non =>
    cases dp
    cases rx
    exact PySem.P.repr_of_none ⟨.str _, H, I.tok _, ⟨_, rfl⟩, q⟩
  | _ => cases dp
theorem kc_reprA (gd : X.A.guards = some []) (hu : X.A.units + 64 < cLine) (h : X.K = K := by rfl) : CallR X (.builtin "repr") (rReprA K) := h ▸ cr_reprA gd hu
end
theorem short_of {α : Type} [DecidableEq α] : ∀ {ns : List α}, ¬ ns.Nodup → ∃ ns' : List α, ns'.length < ns.length ∧ ∀ k ∈ ns, k ∈ ns'
  | [], h => (h List.nodup_nil).elim
  | x :: ns, h => by
    by_cases hx : x ∈ ns
    · exact ⟨ns, by simp, fun k hk => by
        rcases List.mem_cons.mp hk with e | e
        · rw [e]; exact hx
        · exact e⟩
    · obtain ⟨ns', l, s⟩ := short_of (ns := ns) fun hn => h (List.nodup_cons.mpr ⟨hx, hn⟩)
      exact ⟨x :: ns', by simp only [List.length_cons]; omega, fun k hk => by
        rcases List.mem_cons.mp hk with e | e
        · rw [e]; exact List.mem_cons_self
        · exact List.mem_cons_of_mem _ (s k e)⟩
theorem set_count {ks ns : List Int} (hk : ks.Nodup) (h : ∀ k, k ∈ ks ↔ k ∈ ns) : ks.length ≤ ns.length ∧ (ks.length = ns.length ↔ ns.Nodup) := by
  have le := nodup_le hk fun k x => (h k).mp x
  refine ⟨le, fun e => ?_, fun hn => Nat.le_antisymm le (nodup_le hn fun k x => (h k).mpr x)⟩
  by_cases hn : ns.Nodup
  · exact hn
  · obtain ⟨ns', l, s⟩ := short_of hn
    have := nodup_le hk fun k x => s k ((h k).mp x)
    omega
end Pot

namespace Pot
open PySem PySem.Spec PyProof.Rows L2
section
variable {X : Cx} {K : PySem.W.Frag}
theorem ko_inD (hu : X.A.units + 65 < cLine) (h : X.K = K := by rfl) : OpR X (compareOp .In) (rInD K) := h ▸ op_inD hu
theorem ko_notInD (hu : X.A.units + 65 < cLine) (h : X.K = K := by rfl) : OpR X (compareOp .NotIn) (rNotInD K) := h ▸ op_notInD hu
/-- a text thrice -/
def rRep3 : R2 := fun x y H Q => ∃ z : Str, x = .str z ∧ y = .int 3 ∧ z.length ≤ 100000 ∧ ∀ z' : Str, z'.length ≤ 3 * z.length → (∀ c ∈ z'.cps.toList, c ∈ z.cps.toList) → Q (.str z') H
theorem mul3_len (z : Str) : (Txt.mul z 3).length ≤ 3 * z.length ∧ ∀ c ∈ (Txt.mul z 3).cps.toList, c ∈ z.cps.toList := by
  unfold Txt.mul
  rw [if_neg (show ¬ (3 : Int) < 1 by decide)]
  split
  · exact ⟨by omega, fun c h => h⟩
  · constructor
    · show Array.size _ ≤ _
      simp [List.replicate]
      show z.cps.size + (z.cps.size + z.cps.size) ≤ 3 * z.cps.size
      omega
    · intro c h
      simp [List.replicate] at h
      simpa using h
theorem op_rep3 : OpR X (binaryOp .Mult) rRep3 := by
  intro pins sh sg H xv yv v1 u1 Q I r1 r2 h
  obtain ⟨z, rfl, rfl, hz, q⟩ := h
  obtain ⟨tk1, rfl⟩ := r1
  obtain ⟨tk2, rfl⟩ := r2
  have m3 := mul3_len z
  refine SB.mul ⟨by decide, fun _ _ hh => ?_, fun _ _ => ?_⟩ (fun tt kk => ⟨.str (Txt.mul z 3), H, I.tok _, ⟨_, rfl⟩, q _ m3.1 m3.2⟩)
  · have : ((2 : Int) ^ 63 - 1) / 3 = 3074457345618258602 := by decide
    omega
  · have e : (3 : Int).toNat = 3 := rfl
    rw [e]
    show decide _ = false
    refine decide_eq_false ?_
    have := sizeLine_eq
    omega
end
end Pot

namespace Pot
open PySem PySem.Spec PyProof.Rows L2
open Sem (wp)
/-! ### enumerate of a list or a tuple -/
set_option maxHeartbeats 1000000 in
theorem en_new {v : Value} {ob : Obj} {Ok : Heap → Prop} (B : Begins v ob Ok) :
    Meets (Builtin.«enumerate.__new__» ⟨[.type "enumerate", v], []⟩) (fun _ R s => Ok s.heap ∧ R (.ok (.ret (.ref (s.heap.push ob).objs.size))) { s with heap := (s.heap.push ob).push { cls := .type "enumerate", data := .fields #[.none, .bool false, .ref s.heap.objs.size, rawInt 0, .none, .none] } }) :=
  .of_wp fun prog w A R st hst => by
    obtain ⟨hp, gl, dd, tt, oo⟩ := st; obtain ⟨ok1, fin⟩ := hst; have isub := sub_enumerate
    have go : ∀ {A1 : Around} {E1 : Value → Shared → Prop} {Q1 : Value → Shared → Prop}, Q1 (.ref hp.objs.size) ⟨hp.push ob, gl, dd, tt, oo⟩ → wpAny (model prog w) A1 (pyIter v) Q1 E1 ⟨hp, gl, dd, tt, oo⟩ := fun z => B.iter prog w _ _ ⟨hp, gl, dd, tt, oo⟩ _ ok1 z
    wp_walk using go
    refine wpAny_stack_any fun stk => wpAny_pure ?_
    split
    · rename_i cc _ _ _ _ _; cases (cc == Value.type "enumerate") <;> (wp_walk using go; exact ⟨_, rfl, fin⟩)
    · wp_walk using go; exact ⟨_, rfl, fin⟩
/-- some untracked cells written, nothing new -/
theorem inv_ch {X : Cx} {pins : List (Addr × Obj)} {σ : L2.St} {H : Hp} {s : Shared} {h2 : Heap} {tk : Nat} {ch : List Addr} (I : Inv X pins σ H s) (kp : ∀ b o, b ∉ ch → s.heap.get? b = some o → h2.get? b = some o) (fo : ∀ b ∈ ch, FpOk X pins H b) :
    Inv X pins σ H { s with heap := h2, toks := tk } := by
  have out : ∀ c u, H c = some u → c ∉ ch := fun c u e z => by have := (fo c z).1; rw [this] at e; cases e
  refine I.step (g' := s.gens) (d' := s.drawn) (ch := ch) (fun c hc => let ⟨_, a2, _, a4, a5, a6⟩ := fo c hc; ⟨a4, a2, a5, a6⟩) (fun c o _ _ n e _ => kp c o n e) (fun c o _ _ n e _ => ⟨o.slots, kp c o n e⟩) (fun _ _ _ _ z => z) (fun c o n e => ⟨o, kp c o n e⟩) (fun _ _ z => z) (fun _ _ _ z => z) (fun c ps e => ⟨#[], by rw [e]; simp⟩) (fun mm hm => ?_) (fun c u e => ?_) I.bare
  · obtain ⟨o, e1, e2, ho, rest⟩ := hm; exact ⟨o, e1, e2, kp _ o (fun z => (fo _ z).2.1 rfl) ho, rest⟩
  · refine (I.hok c u e).stay (fun c2 v hc q => kp c2 v ?_ q) (fun _ z => z) fun _ _ z => z
    rcases hc with z | z
    · rw [z]; exact out c u e
    · exact out c2 _ z
def ItT (K : PySem.W.Frag) (a : Addr) : It :=
  ⟨fun i H => ∃ (xs : List V) (x : V), SqT K H a xs ∧ xs[i]? = some x, fun i H v H' => ∃ T x, v = .ref T ∧ H T = none ∧ H' = upd H T (.tup [.int (i : Nat), x]) ∧ ∀ xs, SqT K H a xs → xs[i]? = some x, fun i H => ∃ xs : List V, SqT K H a xs ∧ xs.length ≤ i⟩
/-- an iterator of a tuple that has come to its end -/
theorem drawsEnd {prog : Program} {w : World} {A : Around} (hh : A.handled = none) (it t : Addr) (items : Array Value) (i : Nat) (hi : items[i]? = none) :
    Draws prog w A it [it, t] i (fun _ _ => False) (fun j h => j = i ∧ h.IsTupleIter it t j ∧ h.IsTuple t items) where
  live := fun _ _ st => let ⟨o, ho, _⟩ := st.2.1; ⟨o, ho⟩
  frame := fun _ _ _ st hk => ⟨st.1, st.2.1.at fun o e => hk it (by simp) o e, st.2.2.at fun o e => hk t (by simp) o e⟩
  item := fun j _ _ _ hj st _ => absurd st.1 (Nat.ne_of_lt hj)
  done := fun s Q E st hE => wpAny_nextOf_tuple_end hh st.2.1 st.2.2 hi hE
theorem turn_enT {P : Program} {w : World} {K : PySem.W.Frag} {elts : List Expr} {kk : Nat} {tpos : Pos} (a e it : Addr) (ne1 : e ≠ it) :
    Turn P w K (.Tuple elts kk tpos) (ItT K a) [e, it] e (fun i h => (∃ old, IsEnum h e it (0 + ((i : Nat) : Int)) old) ∧ h.IsTupleIter it a i) where
  mem := by simp
  obj := fun i h st b hb => by
    obtain ⟨⟨old, he⟩, ⟨o, ho, hc, hd⟩⟩ := st
    rcases List.mem_cons.mp hb with z | z
    · rw [z]; exact ⟨_, he, fun v q => nomatch q⟩
    · rw [List.mem_singleton.mp z]; exact ⟨o, ho, fun v q => by rw [hd] at q; cases q⟩
  keep := fun i h h' st k => let ⟨⟨old, he⟩, hi⟩ := st; ⟨⟨old, k e (by simp) _ he⟩, hi.at fun o q => k it (by simp) o q⟩
  item := by
    intro X q1 q2 q3 hc i pins s σ H E I hf st hg; subst q1 q2 q3
    obtain ⟨⟨old, he⟩, hit⟩ := st
    obtain ⟨xs, x, hq, hx⟩ := hg
    obtain ⟨its, vals_, p, _⟩ := I.tuple hq
    obtain ⟨u, hu, ru⟩ := vals_.get hx
    have at_ : its.toArray[i]? = some u := by simpa using hu
    have hlt : i < its.toArray.size := (Array.getElem?_eq_some_iff.mp at_).1
    have nt : ∀ b ∈ [e, it], a ≠ b := fun b hb z => by
      obtain ⟨o, ho, cl, _⟩ := p
      rcases List.mem_cons.mp hb with y | y
      · rw [z, y] at ho
        rw [show s.heap.get? e = _ from he] at ho; cases ho; injection cl with cl; exact absurd cl (by decide)
      · rw [z, List.mem_singleton.mp y] at ho
        obtain ⟨o2, ho2, cl2, _⟩ := hit
        rw [ho2] at ho; cases ho
        rw [cl2] at cl; injection cl with cl; exact absurd cl (by decide)
    have G := GoesN.enumFrom (elts := elts) (x1 := kk) (pos := tpos) 0 (Draws.tuple (prog := X.prog) (w := X.w) (A := X.A.in1) (I.ok.hd hc) it a (nt it (by simp)) its.toArray) e ne1 (by simp [ne1, (nt e (by simp)).symm]) (by simp)
    refine G.goes i s _ _ hlt ⟨⟨old, he⟩, hit, p⟩ fun v h2 tk hY st2 hk _ => ?_
    obtain ⟨T, t, u2, rfl, hn, hu2, hT⟩ := hY
    have eu : u2 = u := Option.some.inj (hu2.symm.trans at_)
    subst eu
    rw [Int.zero_add] at hT
    have new : ObjOk X.prog X.w (upd H T (.tup [.int (i : Nat), x])) h2 T (.tup [.int (i : Nat), x]) := ⟨by show 2 ≤ sizeLine; decide, [.int i t, u2], .cons ⟨_, rfl⟩ (.cons ru .nil), hT⟩
    have I1 : Inv X pins σ (upd H T (.tup [.int (i : Nat), x])) { s with heap := h2, toks := tk } := I.turnedNew (ch := [e, it]) (fun b ob hb q => hk b ob hb q) hf hn new
    refine ⟨.ref T, _, I1, rfl, ⟨T, x, rfl, I.hok.fresh hn, rfl, fun ys hy => by rw [I.tuple_inj hy hq]; exact hx⟩, ⟨st2.1, st2.2.1⟩, fun b hb => ?_⟩
    have hb0 := (hf b hb).1
    have hbT : b ≠ T := by
      rcases List.mem_cons.mp hb with y | y
      · rw [y]; exact Nat.ne_of_lt (Nat.lt_of_lt_of_le (Heap.lt_size he) hn)
      · rw [List.mem_singleton.mp y]
        obtain ⟨o2, ho2, _⟩ := hit
        exact Nat.ne_of_lt (Nat.lt_of_lt_of_le (Heap.lt_size ho2) hn)
    rw [upd_ne hbT]; exact hb0
  done := by
    intro X q1 q2 q3 hc i pins s σ H E I hf st hg; subst q1 q2 q3
    obtain ⟨⟨old, he⟩, hit⟩ := st
    obtain ⟨xs, hq, hx⟩ := hg
    obtain ⟨its, vals_, p, _⟩ := I.tuple hq
    have hl := vals_.length
    have nt : ∀ b ∈ [e, it], a ≠ b := fun b hb z => by
      obtain ⟨o, ho, cl, _⟩ := p
      rcases List.mem_cons.mp hb with y | y
      · rw [z, y] at ho
        rw [show s.heap.get? e = _ from he] at ho; cases ho; injection cl with cl; exact absurd cl (by decide)
      · rw [z, List.mem_singleton.mp y] at ho
        obtain ⟨o2, ho2, cl2, _⟩ := hit
        rw [ho2] at ho; cases ho
        rw [cl2] at cl; injection cl with cl; exact absurd cl (by decide)
    have G := GoesN.enumFrom (elts := elts) (x1 := kk) (pos := tpos) 0 (drawsEnd (prog := X.prog) (w := X.w) (A := X.A.in1) (I.ok.hd hc) it a its.toArray i (by simp; omega)) e ne1 (by simp [ne1, (nt e (by simp)).symm]) (by simp)
    exact G.stops s _ _ ⟨⟨old, he⟩, rfl, hit, p⟩ fun h2 tk hk _ => inv_ch I hk hf
  self := fun _ _ _ _ _ st fin => let ⟨⟨_, he⟩, _⟩ := st; wpAny_pyIter_enum he fin
/-- enumerate(v), v a list or a tuple -/
def iEnA (K : PySem.W.Frag) (ta : TA) : TI := fun σ H R => ta σ H fun vs H1 => ∃ a xs, vs = [.ref a] ∧ ((SqL K H1 a xs ∧ R (Ite K a) H1) ∨ (SqT K H1 a xs ∧ R (ItT K a) H1))
theorem pi_enA {X : Cx} {e : Expr} {ta : TA} {p pos tpos : Pos} {elts : List Expr} {kk : Nat} (hg : Gl X "enumerate") (hm : X.mg "enumerate" = none) (ha : PA X [e] ta) (hs : starEach [e] X.env = [(false, eval e X.env)] := by rfl) :
    PI X (.Tuple elts kk tpos) (.Call (.Name "enumerate" p) [e] [] pos) (iEnA X.K ta) := by
  refine ⟨fun pins s σ H R I hi => ?_⟩
  refine Call_ (ld_blt I hg hm boot_enumerate (PyProof.Rows.callWith_type1 (thn (ha.run pos pins s σ H _ I hi) fun us s1 ⟨vs, H1, I1, r1, q1⟩ => ?_) hs rfl))
  obtain ⟨a, xs, ex, q⟩ := q1
  subst ex
  cases r1 with
  | cons r rr =>
    cases rr; cases r
    rcases q with ⟨hq, q⟩ | ⟨hq, q⟩
    · obtain ⟨its, rv, p2, hz⟩ := I1.list hq
      refine call_enumerate_list p2.isList fun h2 he hit hsz hk => wpAny_pyIter_enum he ?_
      refine ⟨s1.heap.objs.size + 1, [s1.heap.objs.size + 1, s1.heap.objs.size], _, _, H1, rfl, I1.kept (t' := s1.toks) hk, turn_enum a (s1.heap.objs.size + 1) s1.heap.objs.size, ⟨⟨.none, he⟩, hit, Nat.succ_ne_self _⟩, fun b hb => ?_, q⟩
      have hge : s1.heap.objs.size ≤ b := by
        rcases List.mem_cons.mp hb with z | z
        · rw [z]; exact Nat.le_add_right _ _
        · rw [List.mem_singleton.mp z]; exact Nat.le_refl _
      exact I1.fpOk hge (I1.hok.fresh hge)
    · obtain ⟨its, rv, p2, hz⟩ := I1.tuple hq
      refine callType_new F.called_enumerate (by decide) (F.typeCall_enumerate_1 _) (F.newCall_enumerate_1 _) (fun obj => F.args_object_init_2 obj _) F.entry_enumerate_new (en_new (begins_tuple a its.toArray)) ⟨p2, ?_⟩
      have sz : (s1.heap.push { cls := .type "tuple_iterator", data := .fields #[.ref a, .int 0 0] }).objs.size = s1.heap.objs.size + 1 := Heap.size_push ..
      show _ ∧ _
      rw [sz]
      have he : IsEnum ((s1.heap.push { cls := .type "tuple_iterator", data := .fields #[.ref a, .int 0 0] }).push { cls := .type "enumerate", data := .fields #[.none, .bool false, .ref s1.heap.objs.size, rawInt 0, .none, .none] }) (s1.heap.objs.size + 1) s1.heap.objs.size (0 + ((0 : Nat) : Int)) .none := by
        have g := Heap.get?_push_size (s1.heap.push { cls := .type "tuple_iterator", data := .fields #[.ref a, .int 0 0] }) (o := { cls := .type "enumerate", data := .fields #[.none, .bool false, .ref s1.heap.objs.size, rawInt 0, .none, .none] }) rfl
        rw [sz] at g; exact g
      refine ⟨⟨_, he, rfl⟩, wpAny_pyIter_enum he ⟨s1.heap.objs.size + 1, [s1.heap.objs.size + 1, s1.heap.objs.size], _, _, H1, rfl, I1.kept (t' := s1.toks) (fun b o z => Heap.get?_push_of_some _ (Heap.get?_push_of_some _ z)), turn_enT a (s1.heap.objs.size + 1) s1.heap.objs.size (Nat.succ_ne_self _), ⟨⟨.none, he⟩, ⟨_, Heap.get?_push_of_some _ (Heap.get?_push_size _ rfl), rfl, rfl⟩⟩, fun b hb => ?_, q⟩⟩
      have hge : s1.heap.objs.size ≤ b := by
        rcases List.mem_cons.mp hb with z | z
        · rw [z]; exact Nat.le_add_right _ _
        · rw [List.mem_singleton.mp z]; exact Nat.le_refl _
      exact I1.fpOk hge (I1.hok.fresh hge)
theorem walk_enT {K : PySem.W.Frag} {a : Addr} {xs : List V} : Walk (ItT K a) xs.length (fun H => SqT K H a xs) (YPair (fun i => some (.int (i : Nat))) (fun i => xs[i]?)) := by
  refine ⟨fun i _ hi hs => ⟨xs, xs[i], hs, by simp [hi]⟩, fun _ hs => ⟨xs, hs, Nat.le_refl _⟩, fun i H v H2 _ hs y => ?_⟩
  obtain ⟨T, x, e1, e2, e3, e4⟩ := y
  exact ⟨T, .int (i : Nat), x, e1, e2, e3, rfl, e4 xs hs⟩
theorem ko_catA {X : Cx} {K : PySem.W.Frag} (h : X.K = K := by rfl) : OpR X (binaryOp .Add) (rCatA K) := h ▸ op_catA
theorem ki_enA {X : Cx} {K : PySem.W.Frag} {e : Expr} {ta : TA} {p pos tpos : Pos} {elts : List Expr} {kk : Nat} (hg : Gl X "enumerate") (hm : X.mg "enumerate" = none) (ha : PA X [e] ta) (hs : starEach [e] X.env = [(false, eval e X.env)] := by rfl) (h : X.K = K := by rfl)
    : PI X (.Tuple elts kk tpos) (.Call (.Name "enumerate" p) [e] [] pos) (iEnA K ta) := h ▸ pi_enA hg hm ha hs
end Pot

namespace Pot
open PySem PySem.Spec PyProof.Rows L2
/-! ### the least and the greatest of a list of numbers -/
section
variable {X : Cx} {K : PySem.W.Frag}
theorem kc_min (hc : X.calm = true := by rfl) (h : X.K = K := by rfl) : CallR X (.builtin "min") (rMin K) := h ▸ cr_min hc
theorem kc_max (hc : X.calm = true := by rfl) (h : X.K = K := by rfl) : CallR X (.builtin "max") (rMax K) := h ▸ cr_max hc
end
end Pot

namespace Pot
open PySem PySem.Spec PyProof.Rows L2
def topS (i : Nat) : Stmt := PySem.Challenge.pw_potround_k21_timetables.main.body.getD i (.Pass ⟨0, 0, 0, 0⟩)
section
variable {P : Program} {w : World} {K : PySem.W.Frag} {mg : Str → Option Value} {base : Heap}
abbrev s__law_take : Stmt := topS 7
def n__law_take : List Str := ["_law_state", "_law_many", "_law_turn", "_law_place", "_law_cell", "_law_digit", "_law_mixed"]
theorem sc__law_take : FnScope n__law_take ["_law_state", "_law_many"] (defScope s__law_take) := ⟨rfl, rfl, rfl, by decide +kernel, rfl, by decide +kernel, by decide +kernel⟩
/-! ### _law_take -/
def spTake : Sp := fun vs H Q _ => ∃ (d c : Addr) (m : Int) (n : Nat), vs = [.ref d, .int m] ∧ 0 < m ∧ m < 1073741824 ∧ StAt H d c n ∧ n < 2 ^ 40 ∧
  ∀ H' r, 0 ≤ r → r < m → StAt H' d c (n + 1) → Sm [d, c] H H' → Q (.int r) H'
theorem ok_take {f : Addr} {fd : FuncData} {k : Nat} (F : Fun K "_law_take" "_law_take" s__law_take f fd) (T : Txt mg) :
    FnOk P w K mg base CX0 (k + 1) f fd ["_law_state", "_law_many"] spTake := by
  refine F.ok sc__law_take (fun vs H Q E h => ?_) (fun cdv A outer s H vs Q E hr h => ?_)
  · obtain ⟨d, c, m, n, rfl, _⟩ := h
    rfl
  · obtain ⟨d, c, m, n, rfl, hm0, hm1, ⟨ndc, xs, t, hd, hc, hx, hx63, ht0, htn⟩, hn, q0⟩ := h
    have q : ∀ H' r, 0 ≤ r → r < m → StAt H' d c (n + 1) → Kp d c H H' → Q (.int r) H' := fun H' r a b e k => q0 H' r a b e (kp_sm k)
    have hu := hu_of hr
    have nd := sc__law_take.nd
    refine ⟨_, (pss_cons (ps_set (i := 2) nd rfl (.inl rfl) (pe_op op_add (pe_dget hu (pv 0) pe_str (fun _ _ => rfl)) pe_int))
      (pss_cons (ps_dput hu (pv 0) pe_str (pv 2) rfl)
      (pss_cons (ps_set (i := 3) nd rfl (.inl rfl) (pe_op op_mod (pv 2) (pe_callB (kc_len (K := K)) (by rfl) T.len PySem.boot_len (pa_cons (pe_dget hu (pv 0) pe_str (fun _ _ => rfl)) pa_nil))))
      (pss_cons (ps_set (i := 4) nd rfl (.inl rfl) (pe_ix (kx_list (K := K)) (pe_dget hu (pv 0) pe_str (fun _ _ => rfl)) (pv 3) (fun _ _ => rfl)))
      (pss_cons (ps_if (pt_cmpR op_ge (pv 4) (pe_op op_pow pe_int pe_int) (nomark _))
          (pss_cons (ps_asg (pe_callB call_divmod (by rfl) T.divmod (by decide +kernel) (pa_cons (pv 4) (pa_cons (pv 1) pa_nil))) (kg_tup (K := K) (n := 2) (pgs_cons (pg_sub (pe_dget hu (pv 0) pe_str (fun _ _ => rfl)) (pv 3) set_list) (pgs_cons (pg_name (i := 5) nd rfl (.inl rfl)) pgs_nil))))
          (pss_one (ps_ret (pv 5))))
          pss_nil)
      (pss_cons (ps_set (i := 6) nd rfl (.inl rfl) (pe_op op_mod (pe_op op_mul (pe_op op_add (pe_op op_add (pe_op op_mod (pv 4) pe_int) (pe_op op_mul (pe_op op_mul (pv 2) (pv 2)) pe_int)) pe_int) pe_int) pe_int))
      (pss_cons (ps_set (i := 6) nd rfl (.inl rfl) (pe_op op_mod (pe_op op_mul (pv 6) (pv 6)) pe_int))
      (pss_one (ps_ret (pe_op op_mod (pe_op op_fdiv (pe_op op_mod (pe_op op_mul (pe_op op_add (pv 6) (pe_op op_mul (pv 2) pe_int)) pe_int) pe_int) pe_int) (pv 1))))))))))), ?_⟩
    -- turn = state['turn'] + 1
    refine ⟨_, rfl, d, _, rfl, dget_turn hd, _, _, rfl, rfl, ?_⟩
    -- state['turn'] = turn
    refine ⟨_, rfl, _, rfl, d, _, rfl, dput_turn (t + 1) hd, ?_⟩
    have hd1 : (upd H d (.dK (dS c (t + 1)))) d = some (.dK (dS c (t + 1))) := upd_same
    have hc1 : (upd H d (.dK (dS c (t + 1)))) c = some (.lst (xs.map V.int)) := by rw [upd_ne ndc.symm]; exact hc
    generalize hH1 : upd H d (.dK (dS c (t + 1))) = H1 at hd1 hc1 ⊢
    have kp1 : Kp d c H H1 := fun b o h1 h2 e => by rw [← hH1, upd_ne h1]; exact e
    obtain ⟨j, y, ej, hj, gj⟩ := mod_at (u := t + 1) hx
    have gj' : (xs.map V.int)[j]? = some (.int y) := by rw [List.getElem?_map, gj]; rfl
    -- place = turn % len(state['cells'])
    refine ⟨_, rfl, _, rfl, d, _, rfl, dget_cells hd1, _, _, rfl, .inl ⟨_, SqL.of hc1, rfl⟩, _, _, rfl, rfl, ?_, ?_⟩
    · show (0 : Int) < ((xs.map V.int).length : Int)
      rw [List.length_map]
      have h0 : 0 < xs.length := List.length_pos_iff.mpr hx
      omega
    -- cell = state['cells'][place]
    refine ⟨_, rfl, d, _, rfl, dget_cells hd1, _, rfl, c, _, _, _, rfl, rfl, SqL.of hc1, (by show atI (xs.map V.int) ((t + 1) % ((xs.map V.int).length : Int)) = some (.int y); rw [ej]; exact atI_nat gj'), ?_⟩
    -- if cell >= 10 ** 18
    refine ⟨_, rfl, _, _, rfl, rfl, ⟨by decide, by decide, by decide⟩, _, _, rfl, rfl, _, rfl, ?_⟩
    refine ite2 (fun hb => ?_) (fun hb => ?_)
    · -- cells[place], digit = divmod(cell, many)
      refine ⟨_, rfl, _, rfl, _, _, rfl, ⟨hm0, hm1⟩, fun p hp => ?_⟩
      have npd : d ≠ p := ne_of_none hd1 hp
      have npc : c ≠ p := ne_of_none hc1 hp
      refine ⟨p, _, rfl, .inl (.inl upd_same), rfl, _, _, rfl, _, rfl, d, _, rfl, dget_cells (t := t + 1) (by rw [upd_ne npd]; exact hd1), _, rfl, ?_⟩
      refine ⟨c, _, _, j, rfl, rfl, (by rw [upd_ne npc]; exact hc1), (by show ixN (xs.map V.int).length ((t + 1) % ((xs.map V.int).length : Int)) = some j; rw [ej]; exact Evl.ixN_nat (by rw [List.length_map]; exact hj)), ?_⟩
      refine ⟨_, _, rfl, rfl, _, rfl, ?_⟩
      refine q _ _ (Int.emod_nonneg _ (by omega)) (Int.emod_lt_of_pos _ hm0) ⟨ndc, xs.set j (y / m), t + 1, ?_, ?_, ?_, ?_, by omega, by omega⟩ (kp1.trans fun b o h1 h2 e => ?_)
      · rw [upd_ne ndc, upd_ne npd]; exact hd1
      · rw [upd_same, List.map_set]
      · intro z
        have z2 := congrArg List.length z
        rw [List.length_set] at z2
        exact hx (List.length_eq_zero_iff.mp z2)
      · rw [List.length_set]; exact hx63
      · rw [upd_ne h2, upd_ne (ne_of_none e hp)]; exact e
    · -- the mixed way
      have t2 : t + 1 < 2 ^ 41 := by omega
      have tt : (t + 1) * (t + 1) < 2 ^ 82 := Int.lt_of_lt_of_le (Int.mul_lt_mul t2 (Int.le_of_lt t2) (by omega) (by decide)) (by decide)
      refine ⟨_, rfl, _, _, rfl, rfl, (by show (0 : Int) < 2147483629; decide), _, rfl, _, rfl, _, _, rfl, rfl, .inl ⟨by omega, by omega⟩, _, _, rfl, rfl, .inr ⟨by decide, by decide⟩, _, _, rfl, rfl, _, _, rfl, rfl, _, _, rfl, rfl, .inr ⟨by decide, by decide⟩, _, _, rfl, rfl, (by show (0 : Int) < 2147483647; decide), ?_⟩
      refine ⟨_, rfl, _, rfl, _, _, rfl, rfl, cmul_mod _ _ (by decide) (by decide), _, _, rfl, rfl, (by show (0 : Int) < 2147483587; decide), ?_⟩
      refine ⟨_, rfl, _, rfl, _, _, rfl, rfl, .inr ⟨by decide, by decide⟩, _, _, rfl, rfl, _, _, rfl, rfl, .inr ⟨by decide, by decide⟩, _, _, rfl, rfl, (by show (0 : Int) < 2147483629; decide), _, _, rfl, rfl, ⟨by decide, by decide⟩, _, rfl, _, _, rfl, rfl, hm0, ?_⟩
      exact q _ _ (Int.emod_nonneg _ (by omega)) (Int.emod_lt_of_pos _ hm0) ⟨ndc, xs, t + 1, hd1, hc1, hx, hx63, by omega, by omega⟩ kp1

abbrev s__law_begin : Stmt := topS 6
def n__law_begin : List Str := ["_law_script", "_law_cells"]
theorem sc__law_begin : FnScope n__law_begin ["_law_script"] (defScope s__law_begin) := ⟨rfl, rfl, rfl, by decide +kernel, rfl, by decide +kernel, by decide +kernel⟩
/-! ### _law_begin -/
def spBegin (K : PySem.W.Frag) : Sp := fun vs H Q _ => ∃ (a : Addr) (ns : List Int), vs = [.ref a] ∧ SqL K H a (ns.map V.int) ∧ ns.length ≤ 63 ∧ ∀ H' d c, Same H H' → StAt H' d c 0 → H d = none → H c = none → Q (.ref d) H'
theorem ok_begin {f : Addr} {fd : FuncData} {k : Nat} (F : Fun K "_law_begin" "_law_begin" s__law_begin f fd) (T : Txt mg) : FnOk P w K mg base CX0 (k + 1) f fd ["_law_script"] (spBegin K) := by
  refine F.ok sc__law_begin (fun vs H Q E h => ?_) (fun cdv A outer s H vs Q E hr h => ?_)
  · obtain ⟨a, ns, rfl, _⟩ := h
    rfl
  · obtain ⟨a, ns, rfl, hS, h63, q⟩ := h
    refine ⟨_, pss_cons (ps_set (i := 1) sc__law_begin.nd rfl (.inl rfl) (pe_callTy call_list_of (by rfl) T.list (by decide +kernel) (pa_cons (pe_slice sl_list (pv 0) po_none (po_some pe_int)) pa_nil)))
      (pss_cons (ps_if (pt_cmpR (op_eqD hr.units) (pv 1) (pe_lst pa_nil) (nomark _)) (pss_one (ps_set (i := 1) sc__law_begin.nd rfl (.inl rfl) (pe_lst (pa_cons pe_int pa_nil)))) pss_nil)
      (pss_one (ps_ret (pe_disp (pps_cons pe_str (pv 1) (pps_cons pe_str pe_int pps_nil)) (by rfl) (by rfl) (fun z => by cases z) (by decide))))), ?_⟩
    refine ⟨_, rfl, 63, rfl, a, _, rfl, hS, fun p hp => ?_⟩
    rw [cut63 (by rw [List.length_map]; exact h63)]
    refine ⟨p, _, rfl, .inl (SqL.of upd_same), fun c hc => ?_⟩
    have npc : p ≠ c := ne_of_none (upd_same (H := H) (o := .lst (ns.map V.int))) hc
    have sm1 : Same H (upd (upd H p (.lst (ns.map V.int))) c (.lst (ns.map V.int))) := (same_upd hp).trans (same_upd hc)
    have hc0 : H c = none := (same_upd hp).free hc
    have hcl : (upd (upd H p (.lst (ns.map V.int))) c (.lst (ns.map V.int))) c = some (.lst (ns.map V.int)) := upd_same
    generalize upd (upd H p (.lst (ns.map V.int))) c (.lst (ns.map V.int)) = H1 at sm1 hcl ⊢
    refine ⟨_, rfl, Nat.zero_le _, fun e he => ?_⟩
    have nce : c ≠ e := ne_of_none hcl he
    refine ⟨_, _, .lst (SqL.of (by rw [upd_ne nce]; exact hcl)) (dp_ints ns), .lst (SqL.of upd_same) .nil, PySem.W.ke_shaped_ints ns, PySem.W.ke_shaped_ints [], _, rfl, ?_⟩
    have fin : ∀ (H2 : Hp) (c2 : Addr) (xs : List Int), Same H H2 → H c2 = none → H2 c2 = some (.lst (xs.map V.int)) → xs ≠ [] → xs.length ≤ 63 →
        tRet (tDisp [(tC (V.str "cells"), tVar 1), (tC (V.str "turn"), tC (V.int 0))]) { nx := fun x H' => Q V.non H', rt := Q } [some (.ref a), some (.ref c2)] H2 := by
      intro H2 c2 xs s2 n2 h2 x0 x63 d hd
      refine ⟨_, rfl, upd_same, [(Sum.inr "cells", .ref c2), (Sum.inr "turn", .int 0)], rfl, (by show 2 ≤ 15; decide), ?_⟩
      have em : mergeK [] [((Sum.inr "cells" : Key), V.ref c2), (Sum.inr "turn", .int 0)] = dS c2 0 := by
        have e : ¬ ((Sum.inr (Str.ofString "cells") : Key) = Sum.inr (Str.ofString "turn")) := by decide +kernel
        unfold mergeK dS
        simp [putK, e]
      rw [em]
      have ncd : c2 ≠ d := ne_of_none h2 hd
      refine q _ d c2 (same_put (same_put s2 (s2.free hd)) (s2.free hd)) ⟨ncd.symm, xs, 0, upd_same, ?_, x0, x63, by decide, by decide⟩ (s2.free hd) n2
      rw [upd_ne ncd, upd_ne ncd]
      exact h2
    cases ns with
    | nil =>
      show if PyData.eqv (PyData.list []) (PyData.list []) = true then _ else _
      rw [if_pos (by rfl)]
      refine ⟨(by show 1 ≤ sizeLine; decide), fun g hg => ?_⟩
      have hg1 : H1 g = none := (same_upd he).free hg
      exact fin _ g [7] (same_put (same_put sm1 (sm1.free he)) (sm1.free hg1)) (sm1.free hg1) upd_same (by intro z; cases z) (by decide)
    | cons n r =>
      show if PyData.eqv (PyData.list (PyData.int n :: r.map PyData.int)) (PyData.list []) = true then _ else _
      rw [if_neg (by intro z; cases z)]
      refine fin _ c (n :: r) (same_put sm1 (sm1.free he)) hc0 (by rw [upd_ne nce]; exact hcl) (by intro z; cases z) h63

abbrev s__law_same : Stmt := topS 8
def n__law_same : List Str := ["_law_found", "_law_due", "_law_one", "_law_other"]
theorem sc__law_same : FnScope n__law_same ["_law_found", "_law_due"] (defScope s__law_same) := ⟨rfl, rfl, rfl, by decide +kernel, rfl, by decide +kernel, by decide +kernel⟩
/-! ### _law_same: two of one and the same make are told to be so -/
def spSame (K : PySem.W.Frag) (k : Nat) : Sp := fun vs H Q _ => ∃ (x y : V) (d : PyData) (m : Nat), vs = [x, y] ∧ Dp K H x d ∧ Dp K H y d ∧ d.depth < k ∧ widAll.wid d ≤ 1000 ∧ gd m d ∧ ∀ H', Same H H' → Q (.bl true) H'
theorem ok_same {f : Addr} {fd : FuncData} (F : Fun K "_law_same" "_law_same" s__law_same f fd) (T : Txt mg) (bF : Binds K fd ["_law_found", "_law_due"] []) (gF : mg "_law_same" = some (.ref f)) :
    ∀ k : Nat, FnOk P w K mg base CX0 (k + 1) f fd ["_law_found", "_law_due"] (spSame K k) := by
  intro k
  induction k with
  | zero =>
    refine F.ok sc__law_same (fun vs H Q E h => ?_) (fun cdv A outer s H vs Q E hr h => ?_)
    · obtain ⟨x, y, d, m, rfl, _⟩ := h
      rfl
    · obtain ⟨x, y, d, m, rfl, hx, hy, hd, hw, hg, q⟩ := h
      exact absurd hd (Nat.not_lt_zero _)
  | succ k G =>
    refine F.ok sc__law_same (fun vs H Q E h => ?_) (fun cdv A outer s H vs Q E hr h => ?_)
    · obtain ⟨x, y, d, m, rfl, _⟩ := h
      rfl
    · obtain ⟨x, y, d, m, rfl, hx, hy, hd, hw, hg, q⟩ := h
      have nd := sc__law_same.nd
      have hu64 := hr.units
      refine ⟨_, (pss_cons (ps_if (pt_val (pe_callB (kc_isiT (K := K)) (by rfl) T.isinstance (by decide +kernel) (pa_cons (pv 1) (pa_cons (pe_tup (pa_cons (pe_bltn (v := .ty "list") (by rfl) T.list (by decide +kernel) rfl) (pa_cons (pe_bltn (v := .ty "tuple") (by rfl) T.tuple (by decide +kernel) rfl) pa_nil))) pa_nil))))
          (pss_cons (ps_if ((pw_or (pt_cmpR op_ne (pe_callB (kc_isi (K := K)) (by rfl) T.isinstance (by decide +kernel) (pa_cons (pv 0) (pa_cons (pe_bltn (v := .ty "list") (by rfl) T.list (by decide +kernel) rfl) pa_nil))) (pe_callB (kc_isi (K := K)) (by rfl) T.isinstance (by decide +kernel) (pa_cons (pv 1) (pa_cons (pe_bltn (v := .ty "list") (by rfl) T.list (by decide +kernel) rfl) pa_nil))) (nomark _)) (pw_or1 (pt_cmpR op_ne (pe_callB (kc_isi (K := K)) (by rfl) T.isinstance (by decide +kernel) (pa_cons (pv 0) (pa_cons (pe_bltn (v := .ty "tuple") (by rfl) T.tuple (by decide +kernel) rfl) pa_nil))) (pe_callB (kc_isi (K := K)) (by rfl) T.isinstance (by decide +kernel) (pa_cons (pv 1) (pa_cons (pe_bltn (v := .ty "tuple") (by rfl) T.tuple (by decide +kernel) rfl) pa_nil))) (nomark _))))).pt
              pss_never
              pss_nil)
          (pss_one (ps_ret (pe_and (pe_cmpR op_eq (pe_callB (kc_len (K := K)) (by rfl) T.len PySem.boot_len (pa_cons (pv 0) pa_nil)) (pe_callB (kc_len (K := K)) (by rfl) T.len PySem.boot_len (pa_cons (pv 1) pa_nil)) (nomark _)) (pe_one (pe_callB (kc_all (K := K)) (by rfl) T.all (by decide +kernel) (pa_cons (pe_lc (own := [("_law_one", 2), ("_law_other", 3)]) rfl nd (ki_zip (K := K) (by rfl) T.zip (pa_cons (pv 0) (pa_cons (pv 1) pa_nil))) (blkOk_by (N := n__law_same) (sc := defScope s__law_same) (by decide +kernel)) (fun _ _ _ _ _ => (kg_tup (K := K) (n := 2) (pgs_cons (pg_name (i := 2) nd rfl (.inl rfl)) (pgs_cons (pg_name (i := 3) nd rfl (.inl rfl)) pgs_nil)))) (fun _ _ _ _ _ => pts_nil) (fun _ _ _ _ _ => (pe_call G hr (by rfl) gF F.kp bF .nil pass0 (pa_cons (pv 2) (pa_cons (pv 3) pa_nil))))) pa_nil)))))))
          pss_nil)
      (pss_cons (ps_if ((pw_or (pt_cmpR op_isN (pv 1) pe_non (nomark _)) (pw_or1 (pt_val (pe_callB (kc_isi (K := K)) (by rfl) T.isinstance (by decide +kernel) (pa_cons (pv 1) (pa_cons (pe_bltn (v := .ty "str") (by rfl) T.str (by decide +kernel) rfl) pa_nil))))))).pt
          (pss_one (ps_ret (pe_and (pe_cmpR (ko_eq (K := K) hu64) (pv 0) (pv 1) (nomark _)) (pe_one (pe_cmpR op_eq (pe_callB (kc_isi (K := K)) (by rfl) T.isinstance (by decide +kernel) (pa_cons (pv 0) (pa_cons (pe_bltn (v := .ty "str") (by rfl) T.str (by decide +kernel) rfl) pa_nil))) (pe_callB (kc_isi (K := K)) (by rfl) T.isinstance (by decide +kernel) (pa_cons (pv 1) (pa_cons (pe_bltn (v := .ty "str") (by rfl) T.str (by decide +kernel) rfl) pa_nil))) (nomark _))))))
          pss_nil)
      (pss_one (ps_ret (pe_and (pe_callB (kc_isi (K := K)) (by rfl) T.isinstance (by decide +kernel) (pa_cons (pv 0) (pa_cons (pe_bltn (v := .ty "int") (by rfl) T.int (by decide +kernel) rfl) pa_nil))) (pe_and (pe_cmpR op_eq (pe_callB (kc_isi (K := K)) (by rfl) T.isinstance (by decide +kernel) (pa_cons (pv 0) (pa_cons (pe_bltn (v := .ty "bool") (by rfl) T.bool (by decide +kernel) rfl) pa_nil))) (pe_callB (kc_isi (K := K)) (by rfl) T.isinstance (by decide +kernel) (pa_cons (pv 1) (pa_cons (pe_bltn (v := .ty "bool") (by rfl) T.bool (by decide +kernel) rfl) pa_nil))) (nomark _)) (pe_one (pe_cmpR (ko_eq (K := K) hu64) (pv 0) (pv 1) (nomark _))))))))), ?_⟩
      refine ⟨_, rfl, (by show 2 ≤ sizeLine; decide), fun t ht => ?_⟩
      have sm1 : Same H (upd H t (.tup [.ty "list", .ty "tuple"])) := same_upd ht
      have hx1 := dp_same sm1 hx
      have hy1 := dp_same sm1 hy
      have ht1 : (upd H t (.tup [.ty "list", .ty "tuple"])) t = some (.tup [.ty "list", .ty "tuple"]) := upd_same
      generalize upd H t (.tup [.ty "list", .ty "tuple"]) = H1 at sm1 hx1 hy1 ht1 ⊢
      refine ⟨_, t, _, _, _, _, rfl, ht1, .cons (.ty _) (.cons (.ty _) .nil), tyx_dp hy1, kit_lt hy1, _, rfl, ?_⟩
      have hx2 := hx1
      have hy2 := hy1
      cases hy1 with
      | non =>
        cases hx1
        refine iteF ?_
        refine ⟨_, rfl, rfl, _, rfl, iteT ?_⟩
        refine ⟨_, rfl, _, rfl, _, _, hx2, hy2, rfl, rfl, _, rfl, ?_⟩
        refine iteT ⟨_, rfl, _, .ty _, _, _, isStrD _, rfl, .ty _, tyx_dp hx2, kit_str hx2, _, rfl, _, .ty _, _, _, isStrD _, rfl, .ty _, tyx_dp hy2, kit_str hy2, rfl, ?_⟩
        rw [decide_eq_true rfl]
        exact q _ sm1
      | str z =>
        cases hx1
        have hsh := gd_shaped hg (by show 0 ≤ 64; decide)
        refine iteF ?_
        refine ⟨_, rfl, rfl, _, rfl, iteF ⟨_, rfl, _, .ty _, _, _, isStrD _, rfl, .ty _, tyx_dp hy2, kit_str hy2, _, rfl, iteT ?_⟩⟩
        refine ⟨_, rfl, _, rfl, _, _, hx2, hy2, hsh, hsh, _, rfl, ?_⟩
        have e : PyData.eqv (.str z) (.str z) = true := by simp [PyData.eqv]
        rw [e]
        refine iteT ⟨_, rfl, _, .ty _, _, _, isStrD _, rfl, .ty _, tyx_dp hx2, kit_str hx2, _, rfl, _, .ty _, _, _, isStrD _, rfl, .ty _, tyx_dp hy2, kit_str hy2, rfl, ?_⟩
        rw [decide_eq_true rfl]
        exact q _ sm1
      | bl b =>
        cases hx1
        refine iteF ?_
        refine ⟨_, rfl, rfl, _, rfl, iteF ⟨_, rfl, _, .ty _, _, _, isStrD _, rfl, .ty _, tyx_dp hy2, kit_str hy2, _, rfl, iteF ?_⟩⟩
        refine ⟨_, rfl, _, .ty _, _, _, isIntD _, rfl, .ty _, tyx_dp hx2, kit_int hx2, _, rfl, iteT ⟨_, rfl, _, .ty _, _, _, isBoolD _, rfl, .ty _, tyx_dp hx2, kit_bool hx2, _, rfl, _, .ty _, _, _, isBoolD _, rfl, .ty _, tyx_dp hy2, kit_bool hy2, rfl, _, rfl, iteT ?_⟩⟩
        refine ⟨_, rfl, _, rfl, _, _, hx2, hy2, rfl, rfl, ?_⟩
        have e : PyData.eqv (.bool b) (.bool b) = true := by cases b <;> rfl
        rw [e]
        exact q _ sm1
      | int i =>
        cases hx1
        refine iteF ?_
        refine ⟨_, rfl, rfl, _, rfl, iteF ⟨_, rfl, _, .ty _, _, _, isStrD _, rfl, .ty _, tyx_dp hy2, kit_str hy2, _, rfl, iteF ?_⟩⟩
        refine ⟨_, rfl, _, .ty _, _, _, isIntD _, rfl, .ty _, tyx_dp hx2, kit_int hx2, _, rfl, iteT ⟨_, rfl, _, .ty _, _, _, isBoolD _, rfl, .ty _, tyx_dp hx2, kit_bool hx2, _, rfl, _, .ty _, _, _, isBoolD _, rfl, .ty _, tyx_dp hy2, kit_bool hy2, rfl, _, rfl, iteT ?_⟩⟩
        refine ⟨_, rfl, _, rfl, _, _, hx2, hy2, rfl, rfl, ?_⟩
        have e : PyData.eqv (.int i) (.int i) = true := by show (i == i) = true; exact beq_self_eq_true i
        rw [e]
        exact q _ sm1
      | @lst b ys ds hl ha =>
        cases hx1 with
        | @lst a xs _ hl' ha' =>
        have e1 : xs.length = ys.length := (dpAll_len ha').trans (dpAll_len ha).symm
        refine iteT ?_
        refine ⟨_, rfl, _, .ty _, _, _, isListD _, rfl, .ty _, tyx_dp hx2, kit_list hx2, _, rfl, _, .ty _, _, _, isListD _, rfl, .ty _, tyx_dp hy2, kit_list hy2, rfl, _, rfl, iteF ?_⟩
        refine ⟨_, rfl, _, .ty _, _, _, isTupD _, rfl, .ty _, tyx_dp hx2, kit_tup hx2, _, rfl, _, .ty _, _, _, isTupD _, rfl, .ty _, tyx_dp hy2, kit_tup hy2, rfl, _, rfl, iteF ?_⟩
        refine ⟨_, rfl, _, xs.length, rfl, .inl ⟨xs, hl', rfl⟩, _, rfl, _, ys.length, rfl, .inl ⟨ys, hl, rfl⟩, rfl, _, rfl, ?_⟩
        rw [e1]
        refine ite2 (fun _ => ?_) (fun h => absurd (decide_eq_true rfl) h)
        refine ⟨_, rfl, _, rfl, a, b, xs, ys, rfl, .inl ⟨hl', hl, fun D hD => ?_⟩⟩
        refine lc_it (walk_zip (xs := xs) (ys := ys) (n := ys.length) (by rw [e1, Nat.min_self])) (fun i H2 => Same H1 H2 ∧ H1 D = none ∧ H2 D = some (.lst ((List.replicate i true).map V.bl))) ⟨same_upd hD, hD, upd_same⟩ (fun i H2 _ h => ⟨h.1.seq hl', h.1.seq hl⟩) ?_ ?_
        · skip
          rintro i v H2 H3 hi ⟨sm, nD, hL⟩ ⟨u, x1, y1, rfl, hu, rfl, gx, gy⟩
          have sm3 : Same H1 (upd H2 u (.tup [x1, y1])) := same_put sm (sm.free hu)
          obtain ⟨d1, g1, p1⟩ := dpAll_at ha' gx
          obtain ⟨d2, g2, p2⟩ := dpAll_at ha gy
          have ed : d1 = d2 := Option.some.inj (g1.symm.trans g2)
          subst ed
          refine ⟨u, _, rfl, .inl (.inl upd_same), rfl, _, _, rfl, _, _, rfl, rfl, rfl, tYes_at ?_⟩
          rw [if_pos rfl]
          refine ⟨_, rfl, _, rfl, x1, y1, d1, m, rfl, dp_same sm3 p1, dp_same sm3 p2, ?_, ?_, gdAll_iff.mp hg d1 (List.mem_of_getElem? g1), fun H4 s4 => ?_⟩
          · have h1 := depth_at g1
            have h2 : PyData.depthAll ds + 1 < k + 1 := hd
            omega
          · exact Nat.le_trans (wid_at g1) (Nat.le_trans (Nat.le_max_right _ _) hw)
          · have nuD : D ≠ u := ne_of_none hL hu
            refine ⟨_, s4 _ _ (by rw [upd_ne nuD]; exact hL), ?_, same_put (sm3.trans s4) nD, nD, ?_⟩
            · rw [List.length_map, List.length_replicate]
              exact Nat.lt_of_lt_of_le (dpAll_len ha ▸ hi) (Nat.le_trans (Nat.le_trans (Nat.le_max_left _ _) hw) (by decide))
            · rw [upd_same, List.replicate_succ', List.map_append]
              rfl
        · skip
          rintro H2 ⟨sm, nD, hL⟩
          refine ⟨D, _, rfl, SqL.of hL, ?_⟩
          have e : (List.replicate ys.length true).all id = true := by simp
          rw [e]
          exact q _ (sm1.trans sm)
      | @tup b ys ds hl ha =>
        cases hx1 with
        | @tup a xs _ hl' ha' =>
        have e1 : xs.length = ys.length := (dpAll_len ha').trans (dpAll_len ha).symm
        refine iteT ?_
        refine ⟨_, rfl, _, .ty _, _, _, isListD _, rfl, .ty _, tyx_dp hx2, kit_list hx2, _, rfl, _, .ty _, _, _, isListD _, rfl, .ty _, tyx_dp hy2, kit_list hy2, rfl, _, rfl, iteF ?_⟩
        refine ⟨_, rfl, _, .ty _, _, _, isTupD _, rfl, .ty _, tyx_dp hx2, kit_tup hx2, _, rfl, _, .ty _, _, _, isTupD _, rfl, .ty _, tyx_dp hy2, kit_tup hy2, rfl, _, rfl, iteF ?_⟩
        refine ⟨_, rfl, _, xs.length, rfl, .inr ⟨xs, hl', rfl⟩, _, rfl, _, ys.length, rfl, .inr ⟨ys, hl, rfl⟩, rfl, _, rfl, ?_⟩
        rw [e1]
        refine ite2 (fun _ => ?_) (fun h => absurd (decide_eq_true rfl) h)
        refine ⟨_, rfl, _, rfl, a, b, xs, ys, rfl, .inr ⟨hl', hl, fun D hD => ?_⟩⟩
        refine lc_it (walk_zipT (xs := xs) (ys := ys) (n := ys.length) (by rw [e1, Nat.min_self])) (fun i H2 => Same H1 H2 ∧ H1 D = none ∧ H2 D = some (.lst ((List.replicate i true).map V.bl))) ⟨same_upd hD, hD, upd_same⟩ (fun i H2 _ h => ⟨same_tup h.1 hl', same_tup h.1 hl⟩) ?_ ?_
        · skip
          rintro i v H2 H3 hi ⟨sm, nD, hL⟩ ⟨u, x1, y1, rfl, hu, rfl, gx, gy⟩
          have sm3 : Same H1 (upd H2 u (.tup [x1, y1])) := same_put sm (sm.free hu)
          obtain ⟨d1, g1, p1⟩ := dpAll_at ha' gx
          obtain ⟨d2, g2, p2⟩ := dpAll_at ha gy
          have ed : d1 = d2 := Option.some.inj (g1.symm.trans g2)
          subst ed
          refine ⟨u, _, rfl, .inl (.inl upd_same), rfl, _, _, rfl, _, _, rfl, rfl, rfl, tYes_at ?_⟩
          rw [if_pos rfl]
          refine ⟨_, rfl, _, rfl, x1, y1, d1, m, rfl, dp_same sm3 p1, dp_same sm3 p2, ?_, ?_, gdAll_iff.mp hg d1 (List.mem_of_getElem? g1), fun H4 s4 => ?_⟩
          · have h1 := depth_at g1
            have h2 : PyData.depthAll ds + 1 < k + 1 := hd
            omega
          · exact Nat.le_trans (wid_at g1) (Nat.le_trans (Nat.le_max_right _ _) hw)
          · have nuD : D ≠ u := ne_of_none hL hu
            refine ⟨_, s4 _ _ (by rw [upd_ne nuD]; exact hL), ?_, same_put (sm3.trans s4) nD, nD, ?_⟩
            · rw [List.length_map, List.length_replicate]
              exact Nat.lt_of_lt_of_le (dpAll_len ha ▸ hi) (Nat.le_trans (Nat.le_trans (Nat.le_max_left _ _) hw) (by decide))
            · rw [upd_same, List.replicate_succ', List.map_append]
              rfl
        · skip
          rintro H2 ⟨sm, nD, hL⟩
          refine ⟨D, _, rfl, SqL.of hL, ?_⟩
          have e : (List.replicate ys.length true).all id = true := by simp
          rw [e]
          exact q _ (sm1.trans sm)

abbrev s__law_number : Stmt := topS 9
def n__law_number : List Str := ["_law_state"]
theorem sc__law_number : FnScope n__law_number ["_law_state"] (defScope s__law_number) := ⟨rfl, rfl, rfl, by decide +kernel, rfl, by decide +kernel, by decide +kernel⟩
def NumOk (i : Int) : Prop := -9 ≤ i ∧ i ≤ 1000000000000
def spNumb : Sp := fun vs H Q _ => ∃ (d c : Addr) (n : Nat), vs = [.ref d] ∧ StAt H d c n ∧ n + 5 < 2 ^ 40 ∧ ∀ H' r, NumOk r → StAt H' d c (n + 4) → Sm [d, c] H H' → Q (.int r) H'
theorem ok_numb {f : Addr} {fd : FuncData} {k : Nat} (F : Fun K "_law_number" "_law_number" s__law_number f fd) (T : Txt mg) (c__law_take : Cl P w K mg base 1 "_law_take" spTake) : FnOk P w K mg base CX0 (k + 2) f fd ["_law_state"] spNumb := by
  refine F.ok sc__law_number (fun vs H Q E h => ?_) (fun cdv A outer s H vs Q E hr h => ?_)
  · obtain ⟨d, c, n, rfl, _⟩ := h
    rfl
  · obtain ⟨d, c, n, rfl, S, hn, q⟩ := h
    have nd := sc__law_number.nd
    /- 0 _law_state -/
    refine ⟨_, (pss_one (ps_ret (pe_ix (kx_list (K := K)) (pe_lst (pa_cons pe_int (pa_cons (pe_cl c__law_take hr (by omega) (by rfl) (pa_cons (pv 0) (pa_cons pe_int pa_nil))) (pa_cons (pe_cl c__law_take hr (by omega) (by rfl) (pa_cons (pv 0) (pa_cons (pe_op op_pow pe_int pe_int) pa_nil))) (pa_cons (pe_op op_pow pe_int pe_int) (pa_cons (pe_op op_sub pe_int (pe_cl c__law_take hr (by omega) (by rfl) (pa_cons (pv 0) (pa_cons pe_int pa_nil)))) pa_nil)))))) (pe_cl c__law_take hr (by omega) (by rfl) (pa_cons (pv 0) (pa_cons pe_int pa_nil))) (fun _ _ => rfl)))), ?_⟩
    refine ⟨_, rfl, d, c, 30, n, rfl, by decide, by decide, S, by omega, fun H1 a a0 a1 S1 s1 => ?_⟩
    refine ⟨_, rfl, _, _, rfl, rfl, ⟨by decide, by decide, by decide⟩, d, c, (10 : Int) ^ (6 : Int).toNat, _, rfl, by decide, by decide, S1, by omega, fun H2 b b0 b1 S2 s2 => ?_⟩
    refine ⟨_, _, rfl, rfl, ⟨by decide, by decide, by decide⟩, ?_⟩
    refine ⟨_, rfl, d, c, 9, _, rfl, by decide, by decide, S2, by omega, fun H3 e e0 e1 S3 s3 => ⟨_, _, rfl, rfl, (by show 5 ≤ sizeLine; decide), fun l nl => ?_⟩⟩
    have g3 := (s1.trans s2).trans s3
    obtain ⟨lst, el⟩ : ∃ lst, lst = [V.int 0, .int a, .int b, .int ((10 : Int) ^ (12 : Int).toNat), .int (0 - e)] := ⟨_, rfl⟩
    show tCall spTake [] E0 _ _ (upd H3 l (.lst [V.int 0, .int a, .int b, .int ((10 : Int) ^ (12 : Int).toNat), .int (0 - e)])) _
    rw [← el]
    have hl : upd H3 l (.lst lst) l = some (.lst lst) := upd_same
    have S4 := S3.same (same_upd (o := .lst lst) nl)
    have g4 := g3.trans (sm_of (S := [d, c]) (same_upd (o := .lst lst) nl))
    have n1 := S3.nd nl
    have n2 := S3.nc nl
    generalize upd H3 l (.lst lst) = H4 at hl S4 g4 ⊢
    refine ⟨_, rfl, d, c, 5, _, rfl, by decide, by decide, S4, by omega, fun H5 i i0 i1 S5 s5 => ?_⟩
    have hl5 := sm2_at s5 n1 n2 hl
    have p6 : (10 : Int) ^ (6 : Int).toNat = 1000000 := by decide
    have p12 : (10 : Int) ^ (12 : Int).toNat = 1000000000000 := by decide
    rw [p6] at b1
    obtain ⟨r, er, ok⟩ : ∃ r, atI lst i = some (.int r) ∧ NumOk r := by
      have h : i = 0 ∨ i = 1 ∨ i = 2 ∨ i = 3 ∨ i = 4 := by omega
      rw [el, p12]
      rcases h with rfl | rfl | rfl | rfl | rfl
      · exact ⟨0, rfl, by decide, by decide⟩
      · exact ⟨a, rfl, by omega, by omega⟩
      · exact ⟨b, rfl, by omega, by omega⟩
      · exact ⟨_, rfl, by decide, by decide⟩
      · exact ⟨0 - e, rfl, by omega, by omega⟩
    exact ⟨l, _, i, _, rfl, rfl, SqL.of hl5, er, q _ r ok S5 (g4.trans s5)⟩

end
end Pot

namespace Pot
open PySem PySem.Spec PyProof.Rows L2
section
variable {P : Program} {w : World} {K : PySem.W.Frag} {mg : Str → Option Value} {base : Heap}
/-! ### a method with values that may be left out -/
abbrev FunVQ (K : PySem.W.Frag) (x qual : Str) (st : Stmt) (dvs : List V) (f : Addr) (fd : FuncData) : Prop := FunD K x qual (defArgs st) (defBody st) (defScope st) dvs [] f fd
theorem okQ {x qual : Str} {st : Stmt} {dvs : List V} {f : Addr} {fd : FuncData} {N ps : List Str} {k : Nat} {sp : Sp} (F : FunVQ K x qual st dvs f fd) (S : FnScope N ps (defScope st)) (len : ∀ vs H Q E, sp vs H Q E → vs.length = ps.length)
    (bd : ∀ (cdv : Value) (A : Around) (outer : List Env) (s : Shared) (H : Hp) (vs : List V) (Q : VK) (E : XK), Room k (A.deeper (envOfC qual (defScope st) s.heap.objs.size f cdv)) → sp vs H Q E → ∃ t, PSs (cxOf CX0 P w K mg base N qual (defScope st) f cdv A outer s H E).nox (defBody st) t ∧ t { nx := fun _ H' => Q .non H', rt := Q } (start N vs) H) : FnOk P w K mg base CX0 (k + 1) f fd ps sp :=
  FunD.ok F S len fun cdv A outer s H vs Q E hr h => by
    obtain ⟨t, ht, hq⟩ := bd cdv A outer s H vs Q E hr h
    exact ⟨t, ht.nox, hq⟩
/-! ### Timetable -/
abbrev Pr := Int × Int
def prD (p : Pr) : PyData := .tuple [.int p.1, .int p.2]
theorem noL_pr (p : Pr) : noLAll.noL (prD p) := ⟨trivial, trivial, trivial⟩
theorem pr_dp {H : Hp} {v : V} {p : Pr} (h : Dp K H v (prD p)) : ∃ a, v = .ref a ∧ SqT K H a [.int p.1, .int p.2] := by
  cases h with
  | tup h a => cases a with
    | cons h1 a => cases a with
      | cons h2 a => cases a; cases h1; cases h2; exact ⟨_, rfl, h⟩
/-- what the class asks of the text -/
structure TtK (K : PySem.W.Frag) (mg : Str → Option Value) (C : Addr) : Prop where
  cl : Cls K C
  ti : NoAttr K C "times"
  le : NoAttr K C "length"
  gl : mg "Timetable" = some (.ref C)
  ins : C8.InsC K C
  ne : NeK K C
theorem tl_ : ¬ (("times" : Str) = "length") := by decide +kernel
theorem lt_ : ¬ (("length" : Str) = "times") := by decide +kernel
theorem pt_ : ¬ (("pair" : Str) = "times") := by decide +kernel
theorem pl_ : ¬ (("pair" : Str) = "length") := by decide +kernel
def tf (t : Addr) (L : Int) : List (Str × V) := putF "length" (.int L) (putF "times" (.ref t) [])
theorem tf_times (t : Addr) (L : Int) : (tf t L).lookup ("times" : Str) = some (.ref t) := by
  unfold tf
  rw [lookup_putF, if_neg tl_, lookup_putF, if_pos rfl]
theorem tf_length (t : Addr) (L : Int) : (tf t L).lookup ("length" : Str) = some (.int L) := by
  unfold tf
  rw [lookup_putF, if_pos rfl]
theorem tf_pair (t : Addr) (L : Int) : (tf t L).lookup ("pair" : Str) = none := by
  unfold tf
  rw [lookup_putF, if_neg pl_, lookup_putF, if_neg pt_]
  all_goals rfl
/-- at p stands a Timetable of these pairs and this length -/
def TtAt (K : PySem.W.Frag) (C : Addr) (H : Hp) (p : Addr) (ts : List Pr) (L : Int) : Prop := ∃ (dx t : Addr) (xs : List V), H p = some (.ins C dx (tf t L)) ∧ SqT K H t xs ∧ DpAll K H xs (ts.map prD)
theorem TtAt.same {C : Addr} {H H' : Hp} {p : Addr} {ts : List Pr} {L : Int} (h : TtAt K C H p ts L) (s : Same H H') : TtAt K C H' p ts L := by
  obtain ⟨dx, t, xs, h1, h2, h3⟩ := h
  exact ⟨dx, t, xs, s _ _ h1, same_tup s h2, dpAll_same s h3⟩
theorem go_ins {H : Hp} {p C dx : Addr} {fs : List (Str × V)} {o : HO} (hp : H p = some (.ins C dx fs)) (a : Addr) (us : List V) (h : SqT K H a us) : SqT K (upd H p o) a us := by
  have ne : ∀ z, H a = some z → (∀ C dx fs, z ≠ .ins C dx fs) → a ≠ p := fun z e n x => by rw [x, hp] at e; exact n _ _ _ (Option.some.inj e).symm
  rcases h with (h | ⟨o2, h⟩) | h
  · exact .inl (.inl (by rw [upd_ne (ne _ h fun _ _ _ z => by cases z)]; exact h))
  · exact .inl (.inr ⟨o2, by rw [upd_ne (ne _ h fun _ _ _ z => by cases z)]; exact h⟩)
  · exact .inr h
/-- pairs that are handed as a list -/
def spTInit (K : PySem.W.Frag) (C : Addr) : Sp := fun vs H Q _ => ∃ (H0 : Hp) (p dx a : Addr) (xs : List V) (ts : List Pr) (L : Int), vs = [.ref p, .ref a, .int L] ∧ Same H0 H ∧ H0 p = none ∧ H p = some (.ins C dx []) ∧ SqL K H a xs ∧ DpAll K H xs (ts.map prD) ∧ ts.length ≤ 1000 ∧ ∀ H', Same H0 H' → TtAt K C H' p ts L → Q .non H'
abbrev s_ti : Stmt := inClass (topS 1) 0
def n_ti : List Str := ["self", "times", "length", "fill", "work"]
theorem sc_ti : FnScope n_ti ["self", "times", "length"] (defScope s_ti) := ⟨rfl, rfl, rfl, by decide +kernel, rfl, by decide +kernel, by decide +kernel⟩
theorem ok_ti {C f : Addr} {fd : FuncData} {k : Nat} (F : Fun K "__init__" "Timetable.__init__" s_ti f fd) (T : Txt mg) (TK : TtK K mg C) : FnOk P w K mg base CX0 (k + 1) f fd ["self", "times", "length"] (spTInit K C) := by
  refine F.ok sc_ti (fun vs H Q E h => ?_) (fun cdv A outer s H vs Q E hr h => ?_)
  · obtain ⟨H0, p, dx, a, xs, ts, L, rfl, _⟩ := h
    rfl
  · obtain ⟨H0, p, dx, a, xs, ts, L, rfl, s0, p0, hp, hS, hx, l, q⟩ := h
    have nd := sc_ti.nd
    refine ⟨_, (pss_cons (ps_fld (pv 0) (pe_callTy (kc_tuple (K := K)) (by rfl) T.tuple (by decide +kernel) (pa_cons (pe_lc (own := [("fill", 3), ("work", 4)]) rfl nd (ki_list (K := K) (pv 1)) (blkOk_by (N := n_ti) (sc := defScope s_ti) (by decide +kernel)) (fun _ _ _ _ _ => (kg_tup (K := K) (n := 2) (pgs_cons (pg_name (i := 3) nd rfl (.inl rfl)) (pgs_cons (pg_name (i := 4) nd rfl (.inl rfl)) pgs_nil)))) (fun _ _ _ _ _ => pts_nil) (fun _ _ _ _ _ => (pe_tup (pa_cons (pv 3) (pa_cons (pv 4) pa_nil))))) pa_nil)) rfl)
      (pss_one (ps_fld (pv 0) (pv 2) rfl))), ?_⟩
    refine ⟨_, rfl, a, rfl, ⟨_, hS⟩, fun R nR => ?_⟩
    refine lc_it (walk_list (xs := xs)) (fun i Hx => Same H Hx ∧ ∃ us, Hx R = some (.lst us) ∧ us.length = i ∧ DpAll K (off Hx [R]) us ((ts.take i).map prD)) ⟨same_upd nR, [], upd_same, rfl, .nil⟩ (fun i Hx _ h => h.1.seq hS) ?_ ?_
    · rintro i x H1 H2 hi ⟨s1, us, hR, lu, du⟩ ⟨rfl, gx⟩
      obtain ⟨pr, gp, dp⟩ := dpAll_map_at (dpAll_same s1 hx) gx
      obtain ⟨b, rfl, hb⟩ := pr_dp dp
      refine ⟨b, _, rfl, hb, rfl, _, _, rfl, _, _, rfl, rfl, rfl, tYes_at ?_⟩
      rw [if_pos rfl]
      refine ⟨_, rfl, _, rfl, (by show 2 ≤ sizeLine; decide), fun u nu => ?_⟩
      have nuR : u ≠ R := fun e => by rw [e, hR] at nu; cases nu
      have lv : Live [R] H2 := fun x hx e => by rw [List.mem_singleton.mp hx, hR] at e; cases e
      have hu := off_new (o := .tup [.int pr.1, .int pr.2]) lv nu
      have su := sm_put (S := [R]) (o := .tup [.int pr.1, .int pr.2]) nu
      have hi2 : i < ts.length := by rw [← dpAll_map_len hx]; exact hi
      refine ⟨us, (same_upd nu) _ _ hR, (by rw [lu, sizeLine_eq]; omega), same_put (s1.trans (same_upd nu)) nR, us ++ [.ref u], upd_same, (by rw [List.length_append, lu]; rfl), ?_⟩
      rw [List.take_add_one, gp, List.map_append]
      exact dpAll_same (sm_wr (by simp)) (dpAll_app' (dpAll_same su du) (.cons (.tup (.inl (.inl hu)) (.cons (.int _) (.cons (.int _) .nil))) .nil))
    rintro H1 ⟨s1, us, hR, lu, du⟩
    rw [dpAll_map_len hx, List.take_length] at du
    refine ⟨R, _, rfl, .inl ⟨SqL.of hR, fun u nu => ?_⟩⟩
    have lv : Live [R] H1 := fun x hx e => by rw [List.mem_singleton.mp hx, hR] at e; cases e
    have up : u ≠ p := fun e => by rw [e, s1 _ _ hp] at nu; cases nu
    have hp1 : upd H1 u (.tup us) p = some (.ins C dx []) := by rw [upd_ne (Ne.symm up)]; exact s1 _ _ hp
    have du := dpAll_same (off_sub.trans (same_upd (o := .tup us) nu)) du
    have s2 := s1.trans (same_upd (o := .tup us) nu)
    have hu : upd H1 u (.tup us) u = some (.tup us) := upd_same
    generalize upd H1 u (.tup us) = H2 at hp1 du s2 hu ⊢
    refine ⟨_, rfl, p, C, dx, [], rfl, hp1, TK.cl, TK.ti, (by show 0 < 1000; decide), ?_⟩
    refine ⟨_, rfl, _, rfl, p, C, dx, _, rfl, upd_same, TK.cl, TK.le, (by show 1 < 1000; decide), ?_⟩
    rw [upd_upd]
    refine q _ (same_put (s0.trans s2) p0) ⟨dx, u, us, upd_same, ?_, ?_⟩
    · exact .inl (.inl (by rw [upd_ne up]; exact hu))
    · exact dpAll_go (go_ins hp1) (noL_map (f := prD) noL_pr _) du
/-- what is told of the pair of a row -/
def prN (p : Pr) (o L : Int) : Pr := (p.1 + o * L, p.2 + o * L)
def spTPair (K : PySem.W.Frag) (C : Addr) : Sp := fun vs H Q _ => ∃ (p : Addr) (ts : List Pr) (L : Int) (i : Nat) (o : Int), vs = [.ref p, .int (i : Nat), .int o] ∧ TtAt K C H p ts L ∧ CMul o L ∧ i < ts.length ∧ ts.length ≤ 1000 ∧
  ∀ (u : Addr), H u = none → Q (.ref u) (upd H u (.tup [.int (prN (ts.getD i (0, 0)) o L).1, .int (prN (ts.getD i (0, 0)) o L).2]))
abbrev s_tp : Stmt := inClass (topS 1) 1
def n_tp : List Str := ["self", "number", "often", "fill", "work"]
theorem sc_tp : FnScope n_tp ["self", "number", "often"] (defScope s_tp) := ⟨rfl, rfl, rfl, by decide +kernel, rfl, by decide +kernel, by decide +kernel⟩
theorem ok_tp {C f : Addr} {fd : FuncData} {k : Nat} (F : FunVQ K "pair" "Timetable.pair" s_tp [.int 0] f fd) (T : Txt mg) (TK : TtK K mg C) : FnOk P w K mg base CX0 (k + 1) f fd ["self", "number", "often"] (spTPair K C) := by
  refine okQ F sc_tp (fun vs H Q E h => ?_) (fun cdv A outer s H vs Q E hr h => ?_)
  · obtain ⟨p, ts, L, i, o, rfl, _⟩ := h
    rfl
  · obtain ⟨p, ts, L, i, o, rfl, ⟨dx, t, xs, hp, ht, hx⟩, cm, hi, l, q⟩ := h
    have nd := sc_tp.nd
    refine ⟨_, (pss_cons (ps_asg (pe_ix (kx_tup (K := K)) (ke_fld (K := K) (pv 0)) (pv 1) (fun _ _ => rfl)) (kg_tup (K := K) (n := 2) (pgs_cons (pg_name (i := 3) nd rfl (.inl rfl)) (pgs_cons (pg_name (i := 4) nd rfl (.inl rfl)) pgs_nil))))
      (pss_one (ps_ret (pe_tup (pa_cons (pe_op op_add (pv 3) (pe_op op_mul (pv 2) (ke_fld (K := K) (pv 0)))) (pa_cons (pe_op op_add (pv 4) (pe_op op_mul (pv 2) (ke_fld (K := K) (pv 0)))) pa_nil)))))), ?_⟩
    have lx : xs.length = ts.length := dpAll_map_len hx
    obtain ⟨v, gv⟩ : ∃ v, xs[i]? = some v := ⟨xs[i]'(by omega), List.getElem?_eq_getElem (by omega)⟩
    obtain ⟨pr, gp, dp⟩ := dpAll_map_at hx gv
    obtain ⟨b, rfl, hb⟩ := pr_dp dp
    have ep : ts.getD i (0, 0) = pr := by rw [List.getD_eq_getElem?_getD, gp]; rfl
    rw [ep] at q
    have gi : atI xs (i : Int) = some (.ref b) := atI_nat gv
    refine ⟨_, rfl, p, C, dx, _, _, rfl, hp, TK.cl, TK.ti, tf_times _ _, _, rfl, t, _, _, .ref b, rfl, rfl, ht, gi, ?_⟩
    refine ⟨b, _, rfl, hb, rfl, _, _, rfl, _, _, rfl, rfl, ?_⟩
    refine ⟨_, rfl, _, rfl, _, rfl, p, C, dx, _, _, rfl, hp, TK.cl, TK.le, tf_length _ _, _, _, rfl, rfl, cm, _, _, rfl, rfl, ?_⟩
    refine ⟨_, rfl, _, rfl, _, rfl, p, C, dx, _, _, rfl, hp, TK.cl, TK.le, tf_length _ _, _, _, rfl, rfl, cm, _, _, rfl, rfl, (by show 2 ≤ sizeLine; decide), fun u nu => q u nu⟩
def spTLen (K : PySem.W.Frag) (C : Addr) : Sp := fun vs H Q _ => ∃ (p : Addr) (ts : List Pr) (L : Int), vs = [.ref p] ∧ TtAt K C H p ts L ∧ Q (.int (ts.length : Nat)) H
abbrev s_tn : Stmt := inClass (topS 1) 2
def n_tn : List Str := ["self"]
theorem sc_tn : FnScope n_tn ["self"] (defScope s_tn) := ⟨rfl, rfl, rfl, by decide +kernel, rfl, by decide +kernel, by decide +kernel⟩
theorem ok_tn {C f : Addr} {fd : FuncData} {k : Nat} (F : Fun K "__len__" "Timetable.__len__" s_tn f fd) (T : Txt mg) (TK : TtK K mg C) : FnOk P w K mg base CX0 (k + 1) f fd ["self"] (spTLen K C) := by
  refine F.ok sc_tn (fun vs H Q E h => ?_) (fun cdv A outer s H vs Q E hr h => ?_)
  · obtain ⟨p, ts, L, rfl, _⟩ := h
    rfl
  · obtain ⟨p, ts, L, rfl, ⟨dx, t, xs, hp, ht, hx⟩, q⟩ := h
    have nd := sc_tn.nd
    refine ⟨_, (pss_one (ps_ret (pe_callB (kc_len (K := K)) (by rfl) T.len PySem.boot_len (pa_cons (ke_fld (K := K) (pv 0)) pa_nil)))), ?_⟩
    rw [← dpAll_map_len hx] at q
    exact ⟨_, rfl, p, C, dx, _, _, rfl, hp, TK.cl, TK.ti, tf_times _ _, _, _, rfl, .inr ⟨_, ht, rfl⟩, q⟩
/-- two Timetables compared -/
def prsD (ts : List Pr) : PyData := .tuple (ts.map prD)
theorem prs_eqv : ∀ ts us : List Pr, PyData.eqvAll (ts.map prD) (us.map prD) = decide (ts = us)
  | [], [] => rfl
  | [], _ :: _ => rfl
  | _ :: _, [] => rfl
  | t :: ts, u :: us => by
    show (PyData.eqv (prD t) (prD u) && PyData.eqvAll (ts.map prD) (us.map prD)) = _
    rw [prs_eqv ts us]
    rw [Bool.eq_iff_iff]
    obtain ⟨a, b⟩ := t
    obtain ⟨c, d⟩ := u
    simp [prD, PyData.eqv, PyData.eqvAll]
theorem prs_lay : ∀ ts : List Pr, PyData.canLayAll0 (ts.map prD) = true
  | [] => rfl
  | t :: ts => by
    show (PyData.canLay0 (prD t) && PyData.canLayAll0 (ts.map prD)) = true
    rw [prs_lay ts]; rfl
theorem prs_shaped (ts : List Pr) : SeqAt.shaped (prsD ts) = true := by
  have h2 : PyData.depthAll (ts.map prD) ≤ 1 := depthAll_map fun r _ => by show max 0 (max 0 0) + 1 ≤ 1; decide
  show (PyData.canLayAll0 (ts.map prD) && decide (PyData.depthAll (ts.map prD) + 1 ≤ 64)) = true
  rw [prs_lay, decide_eq_true (by omega)]; rfl
def spTQ (K : PySem.W.Frag) (C : Addr) : Sp := fun vs H Q _ => ∃ (p : Addr) (ts : List Pr) (L : Int) (y : V), vs = [.ref p, y] ∧ TtAt K C H p ts L ∧ ts.length ≤ 1000 ∧
  ((∃ (r : Addr) (us : List Pr) (M : Int), y = .ref r ∧ TtAt K C H r us M ∧ us.length ≤ 1000 ∧ Q (.bl (decide (ts = us) && decide (L = M))) H) ∨ ∃ t, TyOf K H y t ∧ PySem.W.kitOne K t (.ref C) = some false ∧ Q (.bl false) H)
abbrev s_te : Stmt := inClass (topS 1) 3
def n_te : List Str := ["self", "other"]
theorem sc_te : FnScope n_te ["self", "other"] (defScope s_te) := ⟨rfl, rfl, rfl, by decide +kernel, rfl, by decide +kernel, by decide +kernel⟩
theorem ok_te {C f : Addr} {fd : FuncData} {k : Nat} (F : Fun K "__eq__" "Timetable.__eq__" s_te f fd) (T : Txt mg) (TK : TtK K mg C) : FnOk P w K mg base CX0 (k + 1) f fd ["self", "other"] (spTQ K C) := by
  refine F.ok sc_te (fun vs H Q E h => ?_) (fun cdv A outer s H vs Q E hr h => ?_)
  · obtain ⟨p, ts, L, y, rfl, _⟩ := h
    rfl
  · obtain ⟨p, ts, L, y, rfl, ⟨dx, t, xs, hp, ht, hx⟩, l, h⟩ := h
    have nd := sc_te.nd
    have hu64 := hr.units
    have gl_Timetable := TK.gl
    have I := TK.ins
    let CTimetable := C
    refine ⟨_, (pss_one (ps_ret (pe_and (pe_callB (kc_isT (C := CTimetable)) (by rfl) T.isinstance (by decide +kernel) (pa_cons (pv 1) (pa_cons (pe_glob (v := .ref CTimetable) (by rfl) gl_Timetable rfl) pa_nil))) (pe_and (pe_cmpR (ko_eq (K := K) hu64) (ke_fld (K := K) (pv 0)) (ke_fld (K := K) (pv 1)) (nomark _)) (pe_one (pe_cmpR op_eq (ke_fld (K := K) (pv 0)) (ke_fld (K := K) (pv 1)) (nomark _))))))), ?_⟩
    rcases h with ⟨r, us, M, rfl, ⟨dy, u, ys, hr2, hu, hy⟩, l2, q⟩ | ⟨t2, ty, kt, q⟩
    · refine ⟨_, rfl, .ref r, .ref C, true, rfl, .ins hr2 I.cl I.ha I.hn I.htk I.hm, I.me, _, rfl, iteT ⟨_, rfl, p, C, dx, _, _, rfl, hp, TK.cl, TK.ti, tf_times _ _, _, rfl, r, C, dy, _, _, rfl, hr2, TK.cl, TK.ti, tf_times _ _, prsD ts, prsD us, .tup ht hx, .tup hu hy, prs_shaped _, prs_shaped _, _, rfl, ?_⟩⟩
      have e : PyData.eqv (prsD ts) (prsD us) = decide (ts = us) := prs_eqv ts us
      rw [e]
      by_cases h : ts = us
      · rw [decide_eq_true h] at q ⊢
        refine iteT ⟨_, rfl, p, C, dx, _, _, rfl, hp, TK.cl, TK.le, tf_length _ _, _, rfl, r, C, dy, _, _, rfl, hr2, TK.cl, TK.le, tf_length _ _, ?_⟩
        have e2 : decide (V.int L = V.int M) = decide (L = M) := by simp
        refine ⟨rfl, ?_⟩
        show Q (V.bl (decide (V.int L = V.int M))) H
        rw [e2]
        exact q
      · rw [decide_eq_false h] at q ⊢
        exact iteF q
    · exact ⟨_, rfl, y, t2, false, rfl, ty, kt, _, rfl, iteF q⟩

theorem seq_mid {t u : TS} {D} {σ : L2.St} {H : Hp} (G : L2.St → Hp → Prop) (h1 : ∀ N : L2.St → Hp → Prop, (∀ σ' H', G σ' H' → N σ' H') → t { D with nx := N } σ H) (h2 : ∀ σ' H', G σ' H' → u D σ' H') : tSeq t u D σ H := h1 (u D) h2
/-! ### texts of numbers -/
def iT (i : Int) : Str := Str.ofString (toString i)
theorem st_ext {a b : Str} (h : a.cps.toList = b.cps.toList) : a = b := by
  cases a; cases b
  exact congrArg Str.mk (Array.toList_inj.mp h)
theorem cps_app (a b : Str) : (a ++ b).cps.toList = a.cps.toList ++ b.cps.toList := by
  rw [Str.cps_append]; simp
theorem st_assoc (a b c : Str) : a ++ b ++ c = a ++ (b ++ c) := st_ext (by simp only [cps_app, List.append_assoc])
theorem emp_app (a : Str) : Str.empty ++ a = a := st_ext (by rw [cps_app]; rfl)
theorem os_app (a b : String) : Str.ofString (a ++ b) = Str.ofString a ++ Str.ofString b := st_ext (by
  rw [cps_app, Str.ofString_eq_toList, Str.ofString_eq_toList, Str.ofString_eq_toList]
  simp)
theorem iT_neg {i : Int} (h : i < 0) : Str.ofString "-" ++ iT (-i) = iT i := by
  obtain ⟨m, rfl⟩ : ∃ m : Nat, i = Int.negSucc m := ⟨(-i).toNat - 1, by omega⟩
  have e : toString (Int.negSucc m) = "-" ++ Nat.repr (m + 1) := rfl
  have e2 : toString (-Int.negSucc m) = Nat.repr (m + 1) := rfl
  unfold iT
  rw [e, e2, os_app]
theorem st_len (a b : Str) : (a ++ b).length = a.length + b.length := by
  show (a ++ b).cps.size = a.cps.size + b.cps.size
  rw [Str.cps_append]; simp
theorem os_len (a : String) : (Str.ofString a).length = a.length := PySem.ofString_length a
def FigOk (i : Int) : Prop := i.natAbs < 10 ^ 60
theorem iT_len {i : Int} (h : FigOk i) : (iT i).length ≤ 61 := by
  unfold iT
  rw [os_len]
  exact int_text_length_le10 (k := 60) (by decide) h
theorem fig_log {i : Int} (h : FigOk i) : i.natAbs.log2 < 1920 := by
  by_cases h0 : i.natAbs = 0
  · rw [h0]; decide
  · refine (Nat.log2_lt h0).mpr (Nat.lt_of_lt_of_le h ?_)
    decide +kernel
def prT (p : Pr) : Str := (((Str.ofString "(" ++ iT p.1) ++ Str.ofString ", ") ++ iT p.2) ++ Str.ofString ")"
def daT (p : Pr) : Str := (iT p.1 ++ Str.ofString "-") ++ iT p.2
def PrOk (p : Pr) : Prop := FigOk p.1 ∧ FigOk p.2
theorem prT_len {p : Pr} (h : PrOk p) : (prT p).length ≤ 126 := by
  unfold prT
  have a := iT_len h.1
  have b := iT_len h.2
  rw [st_len, st_len, st_len, st_len, os_len, os_len, os_len]
  have e1 : "(".length = 1 := rfl
  have e2 : ", ".length = 2 := rfl
  have e3 : ")".length = 1 := rfl
  omega
theorem daT_len {p : Pr} (h : PrOk p) : (daT p).length ≤ 126 := by
  unfold daT
  have a := iT_len h.1
  have b := iT_len h.2
  rw [st_len, st_len, os_len]
  have e1 : "-".length = 1 := rfl
  omega
theorem sum_le {f : Pr → Str} {b : Nat} : ∀ {ts : List Pr}, (∀ p ∈ ts, (f p).length ≤ b) → ((ts.map f).map (·.length)).sum ≤ b * ts.length
  | [], _ => Nat.le_refl _
  | t :: ts, h => by
    have h1 := h t List.mem_cons_self
    have h2 := sum_le (f := f) (b := b) (ts := ts) fun p hp => h p (List.mem_cons_of_mem _ hp)
    rw [List.map_cons, List.map_cons, List.sum_cons, List.length_cons, Nat.mul_succ]
    omega
def liT (ts : List Pr) : Str := Txt.join (Str.ofString ", ") (ts.map prT)
def dsT (ts : List Pr) : Str := Txt.join (Str.ofString " ") (ts.map daT)
def reprT (ts : List Pr) (L : Int) : Str := (((Str.ofString "Timetable([" ++ liT ts) ++ Str.ofString "], ") ++ iT L) ++ Str.ofString ")"
def strT (ts : List Pr) (L : Int) : Str := (dsT ts ++ Str.ofString " / ") ++ iT L

theorem join_two (w : List Str) (a b : Str) : ∀ {y : Str}, Str.join (Str.ofString " ") (y :: w ++ [a, b]) = ((Str.join (Str.ofString " ") (y :: w) ++ (Str.ofString " " ++ a)) ++ Str.ofString " ") ++ b := by
  induction w with
  | nil =>
    intro y
    show (y ++ Str.ofString " ") ++ ((a ++ Str.ofString " ") ++ b) = _
    show _ = ((y ++ (Str.ofString " " ++ a)) ++ Str.ofString " ") ++ b
    simp only [st_assoc]
  | cons z w ih =>
    intro y
    show (y ++ Str.ofString " ") ++ Str.join (Str.ofString " ") (z :: w ++ [a, b]) = _
    rw [ih]
    show _ = ((((y ++ Str.ofString " ") ++ Str.join (Str.ofString " ") (z :: w)) ++ (Str.ofString " " ++ a)) ++ Str.ofString " ") ++ b
    simp only [st_assoc]
theorem strT_join {ts : List Pr} (h : ts ≠ []) (L : Int) : Txt.join (Str.ofString " ") (ts.map daT ++ [Str.ofString "/", iT L]) = strT ts L := by
  obtain ⟨p, r, rfl⟩ := List.exists_cons_of_ne_nil h
  unfold strT dsT
  rw [TL.join_eq, TL.join_eq, List.map_cons, join_two]
  have e : (Str.ofString " " ++ Str.ofString "/") ++ Str.ofString " " = Str.ofString " / " := by decide +kernel
  rw [← e]
  simp only [st_assoc]

abbrev s_figures : Stmt := topS 4
def n_figures : List Str := ["number", "left", "parts", "part"]
theorem sc_figures : FnScope n_figures ["number"] (defScope s_figures) := ⟨rfl, rfl, rfl, by decide +kernel, rfl, by decide +kernel, by decide +kernel⟩
def spFig : Sp := fun vs H Q _ => ∃ i : Int, vs = [.int i] ∧ FigOk i ∧ ∀ H', Same H H' → Q (.str (iT i)) H'
theorem ok_fig {f : Addr} {fd : FuncData} {k : Nat} (F : Fun K "figures" "figures" s_figures f fd) (T : Txt mg) : FnOk P w K mg base CX0 (k + 1) f fd ["number"] spFig := by
  refine F.ok sc_figures (fun vs H Q E h => ?_) (fun cdv A outer s H vs Q E hr h => ?_)
  · obtain ⟨i, rfl, _⟩ := h
    rfl
  · obtain ⟨i, rfl, ok, q⟩ := h
    have nd := sc_figures.nd
    /- 0 number, 1 left, 2 parts, 3 part -/
    refine ⟨_, (pss_cons (ps_set (i := 1) nd rfl (.inl rfl) (pe_callB call_abs (by rfl) T.abs (by decide +kernel) (pa_cons (pv 0) pa_nil)))
      (pss_cons (ps_set (i := 2) nd rfl (.inl rfl) (pe_lst pa_nil))
      (pss_cons (ps_while PassesOwn.never (pt_cmpR op_ge (pv 1) (pe_op op_pow pe_int pe_int) (nomark _))
          pss_never)
      (pss_cons (ps_expr (pe_bm PySem.F.plainAttrs_list PySem.F.slot_list_append PySem.F.type_list_append mt_append (pv 2) (pa_cons (pe_ifExp (pt_cmpR op_lt (pv 0) pe_int (nomark _)) (pe_joinedT (PJ.cons pe_str (PJ.cons (pe_fmt (pv 1)) PJ.nil))) (pe_joined1 (pe_fmt (pv 1)))) pa_nil)))
      (pss_one (ps_ret (ke_join (K := K) pe_str (pe_revL (pv 2))))))))), ?_⟩
    refine ⟨_, rfl, i, rfl, ?_⟩
    obtain ⟨lf, elf, l0, lok⟩ : ∃ lf : Int, lf = (if i < 0 then -i else i) ∧ 0 ≤ lf ∧ FigOk lf := ⟨_, rfl, by split <;> omega, by
      unfold FigOk at ok ⊢
      split <;> omega⟩
    have esl : iT i = (if i < 0 then Str.ofString "-" ++ iT lf else iT lf) := by
      by_cases c : i < 0
      · rw [if_pos c] at elf ⊢
        rw [elf, iT_neg c]
      · rw [if_neg c] at elf ⊢
        rw [elf]
    rw [← elf]
    refine ⟨Nat.zero_le _, fun R nR => ?_⟩
    have s1 := same_upd (o := .lst []) nR
    have hR : upd H R (.lst []) R = some (.lst []) := upd_same
    generalize upd H R (.lst []) = H1 at s1 hR ⊢
    simp only [gName, List.set]
    refine ⟨fun m σ H2 => σ = [some (.int i), some (.int lf), some (.ref R), none] ∧ H1 = H2, ⟨0, rfl, rfl⟩, ?_⟩
    rintro m σ H2 ⟨rfl, rfl⟩
    refine ⟨_, rfl, _, _, rfl, rfl, ⟨by decide, by decide, by decide⟩, ?_⟩
    have c : decide ((10 : Int) ^ (60 : Int).toNat ≤ lf) = false := by
      refine decide_eq_false ?_
      have h : lf.natAbs < 10 ^ 60 := lok
      have e : (10 : Int) ^ (60 : Int).toNat = ((10 ^ 60 : Nat) : Int) := by decide +kernel
      rw [e]
      omega
    refine ⟨_, _, rfl, rfl, _, rfl, ?_⟩
    rw [c]
    refine iteF ?_
    dsimp only
    have one : (iT i).length ≤ 61 := iT_len ok
    have onel : (iT lf).length ≤ 61 := iT_len lok
    have fin : ∀ H2, Same H H2 → H2 R = some (.lst [V.str (iT i)]) → tRet (tM1 (rJoin K) (tC (V.str (Str.ofString ""))) (tRevL K (tVar 2))) { nx := fun x H' => Q V.non H', rt := Q } [some (.int i), some (.int lf), some (.ref R), none] H2 := fun H2 s2 h2 => by
      refine ⟨⟨_, rfl⟩, _, rfl, R, _, rfl, SqL.of h2, fun p np => ?_⟩
      refine ⟨_, p, [iT i], rfl, rfl, .inl (SqL.of upd_same), by simp [os_len]; omega, ?_⟩
      exact q _ (same_put s2 (s2.free np))
    refine ⟨_, rfl, .inl ⟨rfl, _, SqL.of hR⟩, _, rfl, _, _, rfl, rfl, _, rfl, ?_⟩
    by_cases c2 : i < 0
    · rw [decide_eq_true c2]
      rw [if_pos c2] at esl
      refine iteT ?_
      refine ⟨_, rfl, by show (Str.empty ++ Str.ofString "-").length ≤ _; rw [emp_app, os_len, sizeLine_eq]; decide, ?_⟩
      refine ⟨_, rfl, .inr ⟨_, rfl, fig_log lok, _, rfl, ?_, ?_⟩⟩
      · rw [emp_app]
        show (Str.ofString "-" ++ iT lf).length ≤ _
        rw [← esl, sizeLine_eq]; omega
      · rw [emp_app]
        refine ⟨R, _, _, rfl, rfl, hR, by decide, fin _ (same_put s1 nR) ?_⟩
        rw [esl]
        exact upd_same
    · rw [decide_eq_false c2]
      rw [if_neg c2] at esl
      refine iteF ?_
      refine ⟨_, rfl, .inr ⟨_, rfl, fig_log lok, ?_⟩⟩
      refine ⟨R, _, _, rfl, rfl, hR, by decide, fin _ (same_put s1 nR) ?_⟩
      rw [esl]
      exact upd_same
theorem sl1 : "(".length = 1 := rfl
theorem sl2 : ", ".length = 2 := rfl
theorem sl3 : ")".length = 1 := rfl
theorem sl4 : "-".length = 1 := rfl
theorem sl5 : "Timetable([".length = 11 := rfl
theorem sl6 : "], ".length = 3 := rfl
theorem sl7 : " / ".length = 3 := rfl
theorem sl8 : " ".length = 1 := rfl
abbrev s_listed : Stmt := topS 2
def n_listed : List Str := ["times", "fill", "work"]
theorem sc_listed : FnScope n_listed ["times"] (defScope s_listed) := ⟨rfl, rfl, rfl, by decide +kernel, rfl, by decide +kernel, by decide +kernel⟩
def spTx (K : PySem.W.Frag) (g : List Pr → Str) : Sp := fun vs H Q _ => ∃ (a : Addr) (xs : List V) (ts : List Pr), vs = [.ref a] ∧ SqT K H a xs ∧ DpAll K H xs (ts.map prD) ∧ ts.length ≤ 20 ∧ (∀ p ∈ ts, PrOk p) ∧ ∀ H', Same H H' → Q (.str (g ts)) H'
theorem ok_lis {f : Addr} {fd : FuncData} {k : Nat} (F : Fun K "listed" "listed" s_listed f fd) (T : Txt mg) (c_figures : Cl P w K mg base 1 "figures" spFig) : FnOk P w K mg base CX0 (k + 2) f fd ["times"] (spTx K liT) := by
  refine F.ok sc_listed (fun vs H Q E h => ?_) (fun cdv A outer s H vs Q E hr h => ?_)
  · obtain ⟨a, xs, ts, rfl, _⟩ := h
    rfl
  · obtain ⟨a, xs, ts, rfl, ha, hx, l, ok, q⟩ := h
    have nd := sc_listed.nd
    /- 0 times, 1 fill, 2 work -/
    refine ⟨_, (pss_one (ps_ret (ke_join (K := K) pe_str (pe_lc (own := [("fill", 1), ("work", 2)]) rfl nd (ki_tup (K := K) (pv 0)) (blkOk_by (N := n_listed) (sc := defScope s_listed) (by decide +kernel)) (fun _ _ _ _ _ => (kg_tup (K := K) (n := 2) (pgs_cons (pg_name (i := 1) nd rfl (.inl rfl)) (pgs_cons (pg_name (i := 2) nd rfl (.inl rfl)) pgs_nil)))) (fun _ _ _ _ _ => pts_nil) (fun _ _ _ _ _ => (pe_joinedT (PJ.cons pe_str (PJ.cons (pe_fmt (pe_cl c_figures hr (by omega) (by rfl) (pa_cons (pv 1) pa_nil))) (PJ.cons pe_str (PJ.cons (pe_fmt (pe_cl c_figures hr (by omega) (by rfl) (pa_cons (pv 2) pa_nil))) (PJ.cons pe_str PJ.nil))))))))))), ?_⟩
    have lx : xs.length = ts.length := dpAll_map_len hx
    refine ⟨⟨_, rfl⟩, _, rfl, a, rfl, ⟨_, ha⟩, fun D nD => ?_⟩
    refine lc_it (walk_tup (xs := xs)) (fun j Hx => Same H Hx ∧ Hx D = some (.lst (((ts.take j).map prT).map V.str))) ⟨same_upd nD, upd_same⟩ (fun j Hx _ h => same_tup h.1 ha) ?_ ?_
    · rintro j y _ Hx hj ⟨sx, hD⟩ ⟨rfl, gy⟩
      obtain ⟨p, gp, dp⟩ := dpAll_map_at (dpAll_same sx hx) gy
      obtain ⟨b, rfl, hb⟩ := pr_dp dp
      have okp := ok p (List.mem_of_getElem? gp)
      have l1 := iT_len okp.1
      have l2 := iT_len okp.2
      refine ⟨b, _, rfl, hb, rfl, _, _, rfl, _, _, rfl, rfl, rfl, tYes_at ?_⟩
      rw [if_pos rfl]
      refine ⟨_, rfl, (by simp only [emp_app, st_len, os_len, sl1, sl2, sl3, sl4, sl5, sl6, sl7]; rw [sizeLine_eq]; omega), ?_⟩
      refine ⟨_, rfl, p.1, rfl, okp.1, fun H4 s4 => .inl ⟨_, rfl, (by rw [sizeLine_eq]; omega), _, rfl, (by simp only [emp_app, st_len, os_len, sl1, sl2, sl3, sl4, sl5, sl6, sl7]; rw [sizeLine_eq]; omega), ?_⟩⟩
      refine ⟨_, rfl, (by simp only [emp_app, st_len, os_len, sl1, sl2, sl3, sl4, sl5, sl6, sl7]; rw [sizeLine_eq]; omega), ?_⟩
      refine ⟨_, rfl, p.2, rfl, okp.2, fun H5 s5 => .inl ⟨_, rfl, (by rw [sizeLine_eq]; omega), _, rfl, (by simp only [emp_app, st_len, os_len, sl1, sl2, sl3, sl4, sl5, sl6, sl7]; rw [sizeLine_eq]; omega), ?_⟩⟩
      refine ⟨_, rfl, (by simp only [emp_app, st_len, os_len, sl1, sl2, sl3, sl4, sl5, sl6, sl7]; rw [sizeLine_eq]; omega), ?_⟩
      have s6 := s4.trans s5
      refine ⟨_, s6 _ _ hD, by rw [List.length_map, List.length_map, List.length_take, sizeLine_eq]; omega, same_put (sx.trans s6) nD, ?_⟩
      rw [List.take_add_one, gp, List.map_append, List.map_append, emp_app]
      exact upd_same
    rintro H2 ⟨s2, hD⟩
    rw [lx, List.take_of_length_le (Nat.le_refl _)] at hD
    refine ⟨_, D, ts.map prT, rfl, rfl, .inl (SqL.of hD), ?_, q _ s2⟩
    have := sum_le (f := prT) (b := 126) (ts := ts) fun p hp => prT_len (ok p hp)
    rw [List.length_map, os_len, sl2]
    omega
abbrev s_dashed : Stmt := topS 3
def n_dashed : List Str := ["times", "fill", "work"]
theorem sc_dashed : FnScope n_dashed ["times"] (defScope s_dashed) := ⟨rfl, rfl, rfl, by decide +kernel, rfl, by decide +kernel, by decide +kernel⟩
theorem ok_das {f : Addr} {fd : FuncData} {k : Nat} (F : Fun K "dashed" "dashed" s_dashed f fd) (T : Txt mg) (c_figures : Cl P w K mg base 1 "figures" spFig) : FnOk P w K mg base CX0 (k + 2) f fd ["times"] (spTx K dsT) := by
  refine F.ok sc_dashed (fun vs H Q E h => ?_) (fun cdv A outer s H vs Q E hr h => ?_)
  · obtain ⟨a, xs, ts, rfl, _⟩ := h
    rfl
  · obtain ⟨a, xs, ts, rfl, ha, hx, l, ok, q⟩ := h
    have nd := sc_dashed.nd
    /- 0 times, 1 fill, 2 work -/
    refine ⟨_, (pss_one (ps_ret (ke_join (K := K) pe_str (pe_lc (own := [("fill", 1), ("work", 2)]) rfl nd (ki_tup (K := K) (pv 0)) (blkOk_by (N := n_dashed) (sc := defScope s_dashed) (by decide +kernel)) (fun _ _ _ _ _ => (kg_tup (K := K) (n := 2) (pgs_cons (pg_name (i := 1) nd rfl (.inl rfl)) (pgs_cons (pg_name (i := 2) nd rfl (.inl rfl)) pgs_nil)))) (fun _ _ _ _ _ => pts_nil) (fun _ _ _ _ _ => (pe_joinedT (PJ.cons (pe_fmt (pe_cl c_figures hr (by omega) (by rfl) (pa_cons (pv 1) pa_nil))) (PJ.cons pe_str (PJ.cons (pe_fmt (pe_cl c_figures hr (by omega) (by rfl) (pa_cons (pv 2) pa_nil))) PJ.nil))))))))), ?_⟩
    have lx : xs.length = ts.length := dpAll_map_len hx
    refine ⟨⟨_, rfl⟩, _, rfl, a, rfl, ⟨_, ha⟩, fun D nD => ?_⟩
    refine lc_it (walk_tup (xs := xs)) (fun j Hx => Same H Hx ∧ Hx D = some (.lst (((ts.take j).map daT).map V.str))) ⟨same_upd nD, upd_same⟩ (fun j Hx _ h => same_tup h.1 ha) ?_ ?_
    · rintro j y _ Hx hj ⟨sx, hD⟩ ⟨rfl, gy⟩
      obtain ⟨p, gp, dp⟩ := dpAll_map_at (dpAll_same sx hx) gy
      obtain ⟨b, rfl, hb⟩ := pr_dp dp
      have okp := ok p (List.mem_of_getElem? gp)
      have l1 := iT_len okp.1
      have l2 := iT_len okp.2
      refine ⟨b, _, rfl, hb, rfl, _, _, rfl, _, _, rfl, rfl, rfl, tYes_at ?_⟩
      rw [if_pos rfl]
      refine ⟨_, rfl, p.1, rfl, okp.1, fun H4 s4 => .inl ⟨_, rfl, (by rw [sizeLine_eq]; omega), _, rfl, (by simp only [emp_app, st_len, os_len, sl1, sl2, sl3, sl4, sl5, sl6, sl7]; rw [sizeLine_eq]; omega), ?_⟩⟩
      refine ⟨_, rfl, (by simp only [emp_app, st_len, os_len, sl1, sl2, sl3, sl4, sl5, sl6, sl7]; rw [sizeLine_eq]; omega), ?_⟩
      refine ⟨_, rfl, p.2, rfl, okp.2, fun H5 s5 => .inl ⟨_, rfl, (by rw [sizeLine_eq]; omega), _, rfl, (by simp only [emp_app, st_len, os_len, sl1, sl2, sl3, sl4, sl5, sl6, sl7]; rw [sizeLine_eq]; omega), ?_⟩⟩
      have s6 := s4.trans s5
      refine ⟨_, s6 _ _ hD, by rw [List.length_map, List.length_map, List.length_take, sizeLine_eq]; omega, same_put (sx.trans s6) nD, ?_⟩
      rw [List.take_add_one, gp, List.map_append, List.map_append, emp_app]
      exact upd_same
    rintro H2 ⟨s2, hD⟩
    rw [lx, List.take_of_length_le (Nat.le_refl _)] at hD
    refine ⟨_, D, ts.map daT, rfl, rfl, .inl (SqL.of hD), ?_, q _ s2⟩
    have := sum_le (f := daT) (b := 126) (ts := ts) fun p hp => daT_len (ok p hp)
    rw [List.length_map, os_len, sl8]
    omega
/-- the two texts of a Timetable -/
def spTt (K : PySem.W.Frag) (C : Addr) (g : List Pr → Int → Str) : Sp := fun vs H Q _ => ∃ (p : Addr) (ts : List Pr) (L : Int), vs = [.ref p] ∧ TtAt K C H p ts L ∧ ts.length ≤ 20 ∧ (∀ p ∈ ts, PrOk p) ∧ FigOk L ∧ ∀ H', Same H H' → Q (.str (g ts L)) H'
theorem join_len (sep : Str) (ys : List Str) : (Str.join sep ys).length ≤ (ys.map (·.length)).sum + ys.length * sep.length := by
  induction ys with
  | nil => exact Nat.zero_le _
  | cons y r ih =>
    cases r with
    | nil =>
      show y.length ≤ _
      rw [List.map_cons, List.sum_cons]
      omega
    | cons z r =>
      show ((y ++ sep) ++ Str.join sep (z :: r)).length ≤ _
      rw [st_len, st_len, List.map_cons, List.sum_cons, List.length_cons, Nat.succ_mul]
      omega
theorem liT_len {ts : List Pr} (l : ts.length ≤ 20) (ok : ∀ p ∈ ts, PrOk p) : (liT ts).length ≤ 3000 := by
  unfold liT
  rw [TL.join_eq]
  have h := join_len (Str.ofString ", ") (ts.map prT)
  have := sum_le (f := prT) (b := 126) (ts := ts) fun p hp => prT_len (ok p hp)
  rw [List.length_map, os_len, sl2] at h
  omega
theorem dsT_len {ts : List Pr} (l : ts.length ≤ 20) (ok : ∀ p ∈ ts, PrOk p) : (dsT ts).length ≤ 3000 := by
  unfold dsT
  rw [TL.join_eq]
  have h := join_len (Str.ofString " ") (ts.map daT)
  have := sum_le (f := daT) (b := 126) (ts := ts) fun p hp => daT_len (ok p hp)
  rw [List.length_map, os_len, sl8] at h
  omega
theorem liT_len2 {ts : List Pr} (ok : ∀ p ∈ ts, PrOk p) : (liT ts).length ≤ 128 * ts.length := by
  unfold liT
  rw [TL.join_eq]
  have h := join_len (Str.ofString ", ") (ts.map prT)
  have := sum_le (f := prT) (b := 126) (ts := ts) fun p hp => prT_len (ok p hp)
  rw [List.length_map, os_len, sl2] at h
  omega
theorem dsT_len2 {ts : List Pr} (ok : ∀ p ∈ ts, PrOk p) : (dsT ts).length ≤ 128 * ts.length := by
  unfold dsT
  rw [TL.join_eq]
  have h := join_len (Str.ofString " ") (ts.map daT)
  have := sum_le (f := daT) (b := 126) (ts := ts) fun p hp => daT_len (ok p hp)
  rw [List.length_map, os_len, sl8] at h
  omega
def Cod (z : Str) : Prop := ∀ c ∈ z.cps.toList, c < 1114112
theorem cod_os (s : String) : Cod (Str.ofString s) := codes_ofString s
theorem cod_app {a b : Str} (h : Cod a) (k : Cod b) : Cod (a ++ b) := fun c hc => by
  rw [cps_app] at hc
  rcases List.mem_append.mp hc with x | x
  · exact h c x
  · exact k c x
theorem cod_join {sep : Str} (hs : Cod sep) : ∀ {ys : List Str}, (∀ y ∈ ys, Cod y) → Cod (Str.join sep ys)
  | [], _ => fun c hc => by have : c ∈ ([] : List Nat) := hc; simp at this
  | [y], h => h y List.mem_cons_self
  | y :: z :: r, h => cod_app (cod_app (h y List.mem_cons_self) hs) (cod_join hs fun x hx => h x (List.mem_cons_of_mem _ hx))
theorem cod_reprT (ts : List Pr) (L : Int) : Cod (reprT ts L) := by
  unfold reprT liT
  rw [TL.join_eq]
  refine cod_app (cod_app (cod_app (cod_app (cod_os _) (cod_join (cod_os _) fun y hy => ?_)) (cod_os _)) (cod_os _)) (cod_os _)
  obtain ⟨p, _, rfl⟩ := List.mem_map.mp hy
  exact cod_app (cod_app (cod_app (cod_app (cod_os _) (cod_os _)) (cod_os _)) (cod_os _)) (cod_os _)
theorem cod_strT (ts : List Pr) (L : Int) : Cod (strT ts L) := by
  unfold strT dsT
  rw [TL.join_eq]
  refine cod_app (cod_app (cod_join (cod_os _) fun y hy => ?_) (cod_os _)) (cod_os _)
  obtain ⟨p, _, rfl⟩ := List.mem_map.mp hy
  exact cod_app (cod_app (cod_os _) (cod_os _)) (cod_os _)
theorem txs_gd {ts : List Pr} {L : Int} (l : ts.length ≤ 14) (ok : ∀ p ∈ ts, PrOk p) (okL : FigOk L) : gd 0 (.list [.str (reprT ts L), .str (strT ts L)]) := by
  have a := liT_len2 ok
  have b := dsT_len2 ok
  have c := iT_len okL
  refine ⟨⟨?_, cod_reprT ts L⟩, ⟨?_, cod_strT ts L⟩, trivial⟩
  · unfold reprT
    simp only [st_len, os_len, sl3, sl5, sl6]
    omega
  · unfold strT
    simp only [st_len, os_len, sl7]
    omega
abbrev s_tr : Stmt := inClass (topS 1) 4
def n_tr : List Str := ["self"]
theorem sc_tr : FnScope n_tr ["self"] (defScope s_tr) := ⟨rfl, rfl, rfl, by decide +kernel, rfl, by decide +kernel, by decide +kernel⟩
theorem ok_tr {C f : Addr} {fd : FuncData} {k : Nat} (F : Fun K "__repr__" "Timetable.__repr__" s_tr f fd) (T : Txt mg) (TK : TtK K mg C) (c_figures : Cl P w K mg base 1 "figures" spFig) (c_listed : Cl P w K mg base 2 "listed" (spTx K liT)) : FnOk P w K mg base CX0 (k + 3) f fd ["self"] (spTt K C reprT) := by
  refine F.ok sc_tr (fun vs H Q E h => ?_) (fun cdv A outer s H vs Q E hr h => ?_)
  · obtain ⟨p, ts, L, rfl, _⟩ := h
    rfl
  · obtain ⟨p, ts, L, rfl, ⟨dx, t, xs, hp, ht, hx⟩, l, ok, okL, q⟩ := h
    have nd := sc_tr.nd
    refine ⟨_, (pss_one (ps_ret (pe_joinedT (PJ.cons pe_str (PJ.cons (pe_fmt (pe_cl c_listed hr (by omega) (by rfl) (pa_cons (ke_fld (K := K) (pv 0)) pa_nil))) (PJ.cons pe_str (PJ.cons (pe_fmt (pe_cl c_figures hr (by omega) (by rfl) (pa_cons (ke_fld (K := K) (pv 0)) pa_nil))) (PJ.cons pe_str PJ.nil)))))))), ?_⟩
    have l1 := liT_len l ok
    have l2 := iT_len okL
    refine ⟨_, rfl, (by simp only [emp_app, st_len, os_len, sl1, sl2, sl3, sl4, sl5, sl6, sl7]; rw [sizeLine_eq]; omega), ?_⟩
    refine ⟨_, rfl, p, C, dx, _, _, rfl, hp, TK.cl, TK.ti, tf_times _ _, t, xs, ts, rfl, ht, hx, l, ok, fun H1 s1 => .inl ⟨_, rfl, (by rw [sizeLine_eq]; omega), _, rfl, (by simp only [emp_app, st_len, os_len, sl1, sl2, sl3, sl4, sl5, sl6, sl7]; rw [sizeLine_eq]; omega), ?_⟩⟩
    refine ⟨_, rfl, (by simp only [emp_app, st_len, os_len, sl1, sl2, sl3, sl4, sl5, sl6, sl7]; rw [sizeLine_eq]; omega), ?_⟩
    refine ⟨_, rfl, p, C, dx, _, _, rfl, s1 _ _ hp, TK.cl, TK.le, tf_length _ _, L, rfl, okL, fun H2 s2 => .inl ⟨_, rfl, (by rw [sizeLine_eq]; omega), _, rfl, (by simp only [emp_app, st_len, os_len, sl1, sl2, sl3, sl4, sl5, sl6, sl7]; rw [sizeLine_eq]; omega), ?_⟩⟩
    refine ⟨_, rfl, (by simp only [emp_app, st_len, os_len, sl1, sl2, sl3, sl4, sl5, sl6, sl7]; rw [sizeLine_eq]; omega), ?_⟩
    rw [emp_app]
    exact q _ (s1.trans s2)
abbrev s_tz : Stmt := inClass (topS 1) 5
def n_tz : List Str := ["self"]
theorem sc_tz : FnScope n_tz ["self"] (defScope s_tz) := ⟨rfl, rfl, rfl, by decide +kernel, rfl, by decide +kernel, by decide +kernel⟩
theorem ok_tz {C f : Addr} {fd : FuncData} {k : Nat} (F : Fun K "__str__" "Timetable.__str__" s_tz f fd) (T : Txt mg) (TK : TtK K mg C) (c_figures : Cl P w K mg base 1 "figures" spFig) (c_dashed : Cl P w K mg base 2 "dashed" (spTx K dsT)) : FnOk P w K mg base CX0 (k + 3) f fd ["self"] (spTt K C strT) := by
  refine F.ok sc_tz (fun vs H Q E h => ?_) (fun cdv A outer s H vs Q E hr h => ?_)
  · obtain ⟨p, ts, L, rfl, _⟩ := h
    rfl
  · obtain ⟨p, ts, L, rfl, ⟨dx, t, xs, hp, ht, hx⟩, l, ok, okL, q⟩ := h
    have nd := sc_tz.nd
    refine ⟨_, (pss_one (ps_ret (pe_joinedT (PJ.cons (pe_fmt (pe_cl c_dashed hr (by omega) (by rfl) (pa_cons (ke_fld (K := K) (pv 0)) pa_nil))) (PJ.cons pe_str (PJ.cons (pe_fmt (pe_cl c_figures hr (by omega) (by rfl) (pa_cons (ke_fld (K := K) (pv 0)) pa_nil))) PJ.nil)))))), ?_⟩
    have l1 := dsT_len l ok
    have l2 := iT_len okL
    refine ⟨_, rfl, p, C, dx, _, _, rfl, hp, TK.cl, TK.ti, tf_times _ _, t, xs, ts, rfl, ht, hx, l, ok, fun H1 s1 => .inl ⟨_, rfl, (by rw [sizeLine_eq]; omega), _, rfl, (by simp only [emp_app, st_len, os_len, sl1, sl2, sl3, sl4, sl5, sl6, sl7]; rw [sizeLine_eq]; omega), ?_⟩⟩
    refine ⟨_, rfl, (by simp only [emp_app, st_len, os_len, sl1, sl2, sl3, sl4, sl5, sl6, sl7]; rw [sizeLine_eq]; omega), ?_⟩
    refine ⟨_, rfl, p, C, dx, _, _, rfl, s1 _ _ hp, TK.cl, TK.le, tf_length _ _, L, rfl, okL, fun H2 s2 => .inl ⟨_, rfl, (by rw [sizeLine_eq]; omega), _, rfl, (by simp only [emp_app, st_len, os_len, sl1, sl2, sl3, sl4, sl5, sl6, sl7]; rw [sizeLine_eq]; omega), ?_⟩⟩
    rw [emp_app]
    exact q _ (s1.trans s2)

end
end Pot

namespace Pot
open PySem PySem.Spec PyProof.Rows L2
section
variable {P : Program} {w : World} {K : PySem.W.Frag} {mg : Str → Option Value} {base : Heap}
abbrev s__law_texts : Stmt := topS 11
def n__law_texts : List Str := ["_law_times", "_law_length", "_law_pairs", "_law_words", "_law_fill", "_law_work"]
theorem sc__law_texts : FnScope n__law_texts ["_law_times", "_law_length"] (defScope s__law_texts) := ⟨rfl, rfl, rfl, by decide +kernel, rfl, by decide +kernel, by decide +kernel⟩
def spTxs (K : PySem.W.Frag) : Sp := fun vs H Q _ => ∃ (a : Addr) (xs : List V) (ts : List Pr) (L : Int), vs = [.ref a, .int L] ∧ SqL K H a xs ∧ DpAll K H xs (ts.map prD) ∧ ts ≠ [] ∧ ts.length ≤ 20 ∧ (∀ p ∈ ts, PrOk p) ∧ FigOk L ∧ ∀ H' R, Same H H' → H R = none → H' R = some (.lst [.str (reprT ts L), .str (strT ts L)]) → Q (.ref R) H'
theorem ok_txs {f : Addr} {fd : FuncData} {k : Nat} (F : Fun K "_law_texts" "_law_texts" s__law_texts f fd) (T : Txt mg) : FnOk P w K mg base CX0 (k + 1) f fd ["_law_times", "_law_length"] (spTxs K) := by
  refine F.ok sc__law_texts (fun vs H Q E h => ?_) (fun cdv A outer s H vs Q E hr h => ?_)
  · obtain ⟨a, xs, ts, L, rfl, _⟩ := h
    rfl
  · obtain ⟨a, xs, ts, L, rfl, ha, hx, ne, l, ok, okL, q⟩ := h
    have nd := sc__law_texts.nd
    /- 0 _law_times, 1 _law_length, 2 _law_pairs, 3 _law_words, 4 _law_fill, 5 _law_work -/
    refine ⟨_, (pss_cons (ps_set (i := 2) nd rfl (.inl rfl) (ke_join (K := K) pe_str (pe_lc (own := [("_law_fill", 4), ("_law_work", 5)]) rfl nd (ki_list (K := K) (pv 0)) (blkOk_by (N := n__law_texts) (sc := defScope s__law_texts) (by decide +kernel)) (fun _ _ _ _ _ => (kg_tup (K := K) (n := 2) (pgs_cons (pg_name (i := 4) nd rfl (.inl rfl)) (pgs_cons (pg_name (i := 5) nd rfl (.inl rfl)) pgs_nil)))) (fun _ _ _ _ _ => pts_nil) (fun _ _ _ _ _ => (pe_op op_add_str (pe_op op_add_str (pe_op op_add_str (pe_op op_add_str pe_str (pe_callTy call_str_int (by rfl) T.str (by decide +kernel) (pa_cons (pv 4) pa_nil))) pe_str) (pe_callTy call_str_int (by rfl) T.str (by decide +kernel) (pa_cons (pv 5) pa_nil))) pe_str)))))
      (pss_cons (ps_setLc (i := 3) (own := [("_law_fill", 4), ("_law_work", 5)]) rfl nd rfl rfl (sw_true rfl rfl rfl (by decide +kernel)) (ki_list (K := K) (pv 0)) (blkOk_by (N := n__law_texts) (sc := defScope s__law_texts) (by decide +kernel)) (fun _ _ _ _ _ => (kg_tup (K := K) (n := 2) (pgs_cons (pg_name (i := 4) nd rfl (.inl rfl)) (pgs_cons (pg_name (i := 5) nd rfl (.inl rfl)) pgs_nil)))) (fun _ _ _ _ _ => pts_nil) (fun _ _ _ _ _ => (pe_op op_add_str (pe_op op_add_str (pe_callTy call_str_int (by rfl) T.str (by decide +kernel) (pa_cons (pv 4) pa_nil)) pe_str) (pe_callTy call_str_int (by rfl) T.str (by decide +kernel) (pa_cons (pv 5) pa_nil)))))
      (pss_one (ps_ret (pe_lst (pa_cons (pe_op op_add_str (pe_op op_add_str (pe_op op_add_str (pe_op op_add_str pe_str (pv 2)) pe_str) (pe_callTy call_str_int (by rfl) T.str (by decide +kernel) (pa_cons (pv 1) pa_nil))) pe_str) (pa_cons (ke_join (K := K) pe_str (pe_op op_cat (pv 3) (pe_lst (pa_cons pe_str (pa_cons (pe_callTy call_str_int (by rfl) T.str (by decide +kernel) (pa_cons (pv 1) pa_nil)) pa_nil))))) pa_nil))))))), ?_⟩
    have lx : xs.length = ts.length := dpAll_map_len hx
    refine ⟨⟨_, rfl⟩, _, rfl, a, rfl, ⟨_, ha⟩, fun D nD => ?_⟩
    refine lc_it (walk_list (xs := xs)) (fun j Hx => Same H Hx ∧ Hx D = some (.lst (((ts.take j).map prT).map V.str))) ⟨same_upd nD, upd_same⟩ (fun j Hx _ h => h.1.seq ha) ?_ ?_
    · rintro j y _ Hx hj ⟨sx, hD⟩ ⟨rfl, gy⟩
      obtain ⟨p, gp, dp⟩ := dpAll_map_at (dpAll_same sx hx) gy
      obtain ⟨b, rfl, hb⟩ := pr_dp dp
      have okp := ok p (List.mem_of_getElem? gp)
      have l1 := iT_len okp.1
      have l2 := iT_len okp.2
      refine ⟨b, _, rfl, hb, rfl, _, _, rfl, _, _, rfl, rfl, rfl, tYes_at ?_⟩
      rw [if_pos rfl]
      refine ⟨_, rfl, _, rfl, fig_log okp.1, _, _, rfl, rfl, (by show Str.length _ + Str.length _ ≤ _; simp only [emp_app, st_len, os_len, sl1, sl2, sl3, sl4, sl5, sl6, sl7]; rw [sizeLine_eq]; first | omega | (show 1 + (iT p.1).length ≤ _; omega) | (have := l1; have := l2; unfold iT at *; simp only [os_len] at *; omega)), _, _, rfl, rfl, (by show Str.length _ + Str.length _ ≤ _; simp only [emp_app, st_len, os_len, sl1, sl2, sl3, sl4, sl5, sl6, sl7]; rw [sizeLine_eq]; first | omega | (show 1 + (iT p.1).length ≤ _; omega) | (have := l1; have := l2; unfold iT at *; simp only [os_len] at *; omega)), _, rfl, _, rfl, fig_log okp.2, _, _, rfl, rfl, (by show Str.length _ + Str.length _ ≤ _; simp only [emp_app, st_len, os_len, sl1, sl2, sl3, sl4, sl5, sl6, sl7]; rw [sizeLine_eq]; first | omega | (show 1 + (iT p.1).length ≤ _; omega) | (have := l1; have := l2; unfold iT at *; simp only [os_len] at *; omega)), _, _, rfl, rfl, (by show Str.length _ + Str.length _ ≤ _; simp only [emp_app, st_len, os_len, sl1, sl2, sl3, sl4, sl5, sl6, sl7]; rw [sizeLine_eq]; first | omega | (show 1 + (iT p.1).length ≤ _; omega) | (have := l1; have := l2; unfold iT at *; simp only [os_len] at *; omega)), ?_⟩
      refine ⟨_, hD, by rw [List.length_map, List.length_map, List.length_take, sizeLine_eq]; omega, same_put sx nD, ?_⟩
      rw [List.take_add_one, gp, List.map_append, List.map_append]
      exact upd_same
    rintro H2 ⟨s2, hD⟩
    rw [lx, List.take_of_length_le (Nat.le_refl _)] at hD
    have sl := sum_le (f := prT) (b := 126) (ts := ts) fun p hp => prT_len (ok p hp)
    have sd := sum_le (f := daT) (b := 126) (ts := ts) fun p hp => daT_len (ok p hp)
    refine ⟨_, D, ts.map prT, rfl, rfl, .inl (SqL.of hD), (by rw [List.length_map, os_len, sl2]; omega), ?_⟩
    simp only [gName, List.set]
    refine ⟨_, rfl, a, rfl, ⟨_, s2.seq ha⟩, fun W nW => ?_⟩
    refine lc_it (walk_list (xs := xs)) (fun j Hx => Same H2 Hx ∧ Hx W = some (.lst (((ts.take j).map daT).map V.str))) ⟨same_upd nW, upd_same⟩ (fun j Hx _ h => h.1.seq (s2.seq ha)) ?_ ?_
    · rintro j y _ Hx hj ⟨sx, hW⟩ ⟨rfl, gy⟩
      obtain ⟨p, gp, dp⟩ := dpAll_map_at (dpAll_same (s2.trans sx) hx) gy
      obtain ⟨b, rfl, hb⟩ := pr_dp dp
      have okp := ok p (List.mem_of_getElem? gp)
      have l1 := iT_len okp.1
      have l2 := iT_len okp.2
      refine ⟨b, _, rfl, hb, rfl, _, _, rfl, _, _, rfl, rfl, rfl, tYes_at ?_⟩
      rw [if_pos rfl]
      refine ⟨_, rfl, _, rfl, fig_log okp.1, _, _, rfl, rfl, (by show Str.length _ + Str.length _ ≤ _; simp only [emp_app, st_len, os_len, sl1, sl2, sl3, sl4, sl5, sl6, sl7]; rw [sizeLine_eq]; first | omega | (show 1 + (iT p.1).length ≤ _; omega) | (have := l1; have := l2; unfold iT at *; simp only [os_len] at *; omega)), _, rfl, _, rfl, fig_log okp.2, _, _, rfl, rfl, (by show Str.length _ + Str.length _ ≤ _; simp only [emp_app, st_len, os_len, sl1, sl2, sl3, sl4, sl5, sl6, sl7]; rw [sizeLine_eq]; first | omega | (show 1 + (iT p.1).length ≤ _; omega) | (have := l1; have := l2; unfold iT at *; simp only [os_len] at *; omega)), ?_⟩
      refine ⟨_, hW, by rw [List.length_map, List.length_map, List.length_take, sizeLine_eq]; omega, same_put sx nW, ?_⟩
      rw [List.take_add_one, gp, List.map_append, List.map_append]
      exact upd_same
    rintro H3 ⟨s3, hW⟩
    rw [lx, List.take_of_length_le (Nat.le_refl _)] at hW
    have lt := liT_len l ok
    have ltd := dsT_len l ok
    have lL := iT_len okL
    simp only [gName, List.set]
    refine ⟨_, rfl, _, _, rfl, rfl, (by show Str.length _ + Str.length _ ≤ _; simp only [emp_app, st_len, os_len, sl1, sl2, sl3, sl4, sl5, sl6, sl7]; rw [sizeLine_eq]; first | omega | (unfold liT iT at *; simp only [os_len] at *; omega)), _, _, rfl, rfl, (by show Str.length _ + Str.length _ ≤ _; simp only [emp_app, st_len, os_len, sl1, sl2, sl3, sl4, sl5, sl6, sl7]; rw [sizeLine_eq]; first | omega | (unfold liT iT at *; simp only [os_len] at *; omega)), _, rfl, _, rfl, fig_log okL, _, _, rfl, rfl, (by show Str.length _ + Str.length _ ≤ _; simp only [emp_app, st_len, os_len, sl1, sl2, sl3, sl4, sl5, sl6, sl7]; rw [sizeLine_eq]; first | omega | (unfold liT iT at *; simp only [os_len] at *; omega)), _, _, rfl, rfl, (by show Str.length _ + Str.length _ ≤ _; simp only [emp_app, st_len, os_len, sl1, sl2, sl3, sl4, sl5, sl6, sl7]; rw [sizeLine_eq]; first | omega | (unfold liT iT at *; simp only [os_len] at *; omega)), ?_⟩
    refine ⟨⟨_, rfl⟩, _, rfl, _, rfl, _, rfl, fig_log okL, (by show 2 ≤ sizeLine; decide), fun l2 nl2 => ?_⟩
    have s4 := same_upd (o := .lst [V.str (Str.ofString "/"), .str (iT L)]) nl2
    have h4 : upd H3 l2 (.lst [V.str (Str.ofString "/"), .str (iT L)]) l2 = some (.lst [V.str (Str.ofString "/"), .str (iT L)]) := upd_same
    refine ⟨W, l2, _, _, rfl, rfl, s4 _ _ hW, upd_same, (by rw [List.length_map, List.length_map, sizeLine_eq]; show ts.length + 2 ≤ _; omega), fun p np => ?_⟩
    have s5 := ((s2.trans s3).trans s4).trans (same_upd (o := .lst (((ts.map daT).map V.str) ++ [V.str (Str.ofString "/"), .str (iT L)])) np)
    refine ⟨_, p, ts.map daT ++ [Str.ofString "/", iT L], rfl, rfl, .inl (SqL.of (by rw [List.map_append]; exact upd_same)), ?_, (by show 2 ≤ sizeLine; decide), fun R nR => ?_⟩
    · rw [List.map_append, List.sum_append, List.length_append, List.length_map, os_len, sl8]
      show _ + ([(Str.ofString "/").length, (iT L).length].sum) + (ts.length + 2) * 1 ≤ _
      have e : (Str.ofString "/").length = 1 := os_len _
      simp only [List.sum_cons, List.sum_nil, e]
      omega
    · refine q _ R (same_put s5 (s5.free nR)) (s5.free nR) ?_
      rw [strT_join ne]
      exact upd_same
abbrev s__law_told : Stmt := topS 12
def n__law_told : List Str := ["_law_timetable", "_law_times", "_law_length", "_law_k", "_law_fill", "_law_work", "_law_often", "_law_due"]
theorem sc__law_told : FnScope n__law_told ["_law_timetable", "_law_times", "_law_length"] (defScope s__law_told) := ⟨rfl, rfl, rfl, by decide +kernel, rfl, by decide +kernel, by decide +kernel⟩
def spTld (K : PySem.W.Frag) (C : Addr) : Sp := fun vs H Q _ => ∃ (p a : Addr) (xs : List V) (ts : List Pr) (L : Int), vs = [.ref p, .ref a, .int L] ∧ TtAt K C H p ts L ∧ SqL K H a xs ∧ DpAll K H xs (ts.map prD) ∧ ts ≠ [] ∧ ts.length ≤ 13 ∧ (∀ p ∈ ts, PrOk p) ∧ 0 ≤ L ∧ L ≤ 2000000000000 ∧ ∀ H', Same H H' → Q (.bl true) H'
/-- all of Timetable -/
structure TtC (P : Program) (w : World) (K : PySem.W.Frag) (mg : Str → Option Value) (base : Heap) (C : Addr) : Prop where
  tk : TtK K mg C
  made : OMak P w K mg base 1 "Timetable" C (spTInit K C) []
  pair : OMet P w K mg base 1 C "pair" (spTPair K C) []
  pair1 : OMet P w K mg base 1 C "pair" (spTPair K C) [.int 0]
  len : Own P w K mg base 1 C "__len__" (spTLen K C)
  eq : Own P w K mg base 1 C "__eq__" (spTQ K C)
  rp : Own P w K mg base 3 C "__repr__" (spTt K C reprT)
  st : Own P w K mg base 3 C "__str__" (spTt K C strT)
theorem ok_tld {C f : Addr} {fd : FuncData} {k : Nat} (F : Fun K "_law_told" "_law_told" s__law_told f fd) (T : Txt mg) (O : TtC P w K mg base C) (c__law_same : Cl P w K mg base 4 "_law_same" (spSame K 3)) (c__law_texts : Cl P w K mg base 1 "_law_texts" (spTxs K)) : FnOk P w K mg base CX0 (k + 6) f fd ["_law_timetable", "_law_times", "_law_length"] (spTld K C) := by
  refine F.ok sc__law_told (fun vs H Q E h => ?_) (fun cdv A outer s H vs Q E hr h => ?_)
  · obtain ⟨p, a, xs, ts, L, rfl, _⟩ := h
    rfl
  · obtain ⟨p, a, xs, ts, L, rfl, M, ha, hx, ne, l, ok, L0, L1, q⟩ := h
    have nd := sc__law_told.nd
    have hu64 := hr.units
    have m_Timetable_pair := O.pair
    have m_Timetable_pair1 := O.pair1
    have len_Timetable := O.len
    have repr_Timetable := O.rp
    have str_Timetable := O.st
    let CTimetable := C
    /- 0 _law_timetable, 1 _law_times, 2 _law_length, 3 _law_k, 4 _law_fill, 5 _law_work, 6 _law_often, 7 _law_due -/
    refine ⟨_, (pss_cons (ps_if ((pw_or (pt_not (pt_val (pe_cl c__law_same hr (by omega) (by rfl) (pa_cons (pe_callB (kc_lenI len_Timetable hr (by omega)) (by rfl) T.len PySem.boot_len (pa_cons (pv 0) pa_nil)) (pa_cons (pe_callB (kc_len (K := K)) (by rfl) T.len PySem.boot_len (pa_cons (pv 1) pa_nil)) pa_nil))))) (pw_or1 (pt_not (pt_val (pe_cl c__law_same hr (by omega) (by rfl) (pa_cons (ke_fld (K := K) (pv 0)) (pa_cons (pv 2) pa_nil)))))))).pt
          (pss_one (ps_ret pe_bl))
          pss_nil)
      (pss_cons (ps_if (pt_not (pt_val (pe_cl c__law_same hr (by omega) (by rfl) (pa_cons (pe_lst (pa_cons (pe_callB (kc_reprI repr_Timetable hr (by omega)) (by rfl) T.repr (by decide +kernel) (pa_cons (pv 0) pa_nil)) (pa_cons (pe_callTy (kc_strI str_Timetable hr (by omega)) (by rfl) T.str (by decide +kernel) (pa_cons (pv 0) pa_nil)) pa_nil))) (pa_cons (pe_cl c__law_texts hr (by omega) (by rfl) (pa_cons (pv 1) (pa_cons (pv 2) pa_nil))) pa_nil)))))
          (pss_one (ps_ret pe_bl))
          pss_nil)
      (pss_cons (ps_for PassesOwn.never rfl (ki_enum (K := K) (by rfl) T.enumerate (pa_cons (pv 1) pa_nil)) (kg_tup (K := K) (n := 2) (pgs_cons (pg_name (i := 3) nd rfl (.inl rfl)) (pgs_cons (kg_tup (K := K) (n := 2) (pgs_cons (pg_name (i := 4) nd rfl (.inl rfl)) (pgs_cons (pg_name (i := 5) nd rfl (.inl rfl)) pgs_nil))) pgs_nil)))
          (pss_cons (ps_for PassesOwn.never rfl (ki_tup (K := K) (pe_tup (pa_cons pe_int (pa_cons pe_int (pa_cons (pe_op op_add pe_int (pv 3)) (pa_cons (pe_op op_pow pe_int pe_int) pa_nil)))))) (pg_name (i := 6) nd rfl (.inl rfl))
              (pss_cons (ps_set (i := 7) nd rfl (.inl rfl) (pe_tup (pa_cons (pe_op op_add (pv 4) (pe_op op_mul (pv 6) (pv 2))) (pa_cons (pe_op op_add (pv 5) (pe_op op_mul (pv 6) (pv 2))) pa_nil))))
              (pss_one (ps_if (pt_not (pt_val (pe_cl c__law_same hr (by omega) (by rfl) (pa_cons (pe_omt m_Timetable_pair hr (by omega) (pv 0) (pa_cons (pv 3) (pa_cons (pv 6) pa_nil))) (pa_cons (pv 7) pa_nil)))))
                  (pss_one (ps_ret pe_bl))
                  pss_nil))))
          (pss_one (ps_if (pt_not (pt_val (pe_cl c__law_same hr (by omega) (by rfl) (pa_cons (pe_omt m_Timetable_pair1 hr (by omega) (pv 0) (pa_cons (pv 3) pa_nil)) (pa_cons (pe_tup (pa_cons (pv 4) (pa_cons (pv 5) pa_nil))) pa_nil)))))
              (pss_one (ps_ret pe_bl))
              pss_nil))))
      (pss_one (ps_ret pe_bl))))), ?_⟩
    obtain ⟨dx, t, txs, hp, ht, htx⟩ := id M
    have lx : xs.length = ts.length := dpAll_map_len hx
    have okL : FigOk L := by
      unfold FigOk
      have e : (2000000000000 : Nat) < 10 ^ 60 := by decide
      omega
    refine ⟨_, rfl, p, dx, _, rfl, hp, p, ts, L, rfl, M, ts.length, rfl, by omega, ?_⟩
    refine ⟨_, rfl, _, _, rfl, .inl ⟨_, ha, rfl⟩, ?_⟩
    rw [lx]
    refine ⟨_, _, .int (ts.length : Nat), ts.length, rfl, .int _, .int _, (by show 0 < 3; decide), (by show 0 ≤ 1000; decide), by show Int.natAbs _ ≤ _; omega, fun H1 s1 => ⟨true, rfl, iteF ?_⟩⟩
    have M1 := M.same s1
    have hp1 := s1 _ _ hp
    refine ⟨_, rfl, p, C, dx, _, _, rfl, hp1, O.tk.cl, O.tk.le, tf_length _ _, _, rfl, _, _, .int L, L.natAbs, rfl, .int _, .int _, (by show 0 < 3; decide), (by show 0 ≤ 1000; decide), Nat.le_refl _, fun H2 s2 => ⟨true, rfl, iteF ?_⟩⟩
    have s2 := s1.trans s2
    clear s1 hp1 M1
    have M2 := M.same s2
    refine ⟨_, rfl, p, dx, _, rfl, s2 _ _ hp, p, ts, L, rfl, M2, by omega, ok, okL, fun H3 s3 => ⟨_, rfl, ?_⟩⟩
    have s3 := s2.trans s3
    refine ⟨_, rfl, p, dx, _, rfl, s3 _ _ hp, p, ts, L, rfl, M.same s3, by omega, ok, okL, fun H4 s4 => ⟨_, rfl, (by show 2 ≤ sizeLine; decide), fun R nR => ?_⟩⟩
    have s4 := s3.trans s4
    have s5 := s4.trans (same_upd (o := .lst [V.str (reprT ts L), .str (strT ts L)]) nR)
    have hR : upd H4 R (.lst [V.str (reprT ts L), .str (strT ts L)]) R = some (.lst [V.str (reprT ts L), .str (strT ts L)]) := upd_same
    generalize upd H4 R (.lst [V.str (reprT ts L), .str (strT ts L)]) = H5 at s5 hR ⊢
    refine ⟨_, rfl, _, rfl, a, xs, ts, L, rfl, s5.seq ha, dpAll_same s5 hx, ne, by omega, ok, okL, fun H6 R2 s6 nR2 hR2 => ?_⟩
    have s7 := s5.trans s6
    refine ⟨_, _, .list [.str (reprT ts L), .str (strT ts L)], 0, rfl, .lst (SqL.of (s6 _ _ hR)) (.cons (.str _) (.cons (.str _) .nil)), .lst (SqL.of hR2) (.cons (.str _) (.cons (.str _) .nil)), (by show max 0 (max 0 0) + 1 < 3; decide), (by show max 2 (max 0 (max 0 0)) ≤ 1000; decide), txs_gd (by omega) ok okL, fun H7 s8 => ⟨true, rfl, iteF ?_⟩⟩
    have s8 := s7.trans s8
    refine ⟨_, rfl, a, _, rfl, s8.seq ha, ?_⟩
    refine for_it (walk_enum (xs := xs)) (fun i σ Hx => ∃ v3 v4 v5 v6 v7, σ = [some (.ref p), some (.ref a), some (.int L), v3, v4, v5, v6, v7] ∧ Same H Hx) ⟨_, _, _, _, _, rfl, s8⟩ (fun i σ Hx _ z => by obtain ⟨_, _, _, _, _, _, z⟩ := z; exact z.seq ha) ?_ (fun σ Hx h => by
      obtain ⟨_, _, _, _, _, rfl, z⟩ := h
      exact q _ z)
    rintro i y σ Ha Hb hi ⟨v3, v4, v5, v6, v7, rfl, sa⟩ ⟨tt, x1, x2, rfl, nt, rfl, g1, g2⟩
    cases g1
    replace g2 : xs[i]? = some x2 := g2
    obtain ⟨pr, gp, dp⟩ := dpAll_map_at hx g2
    have s9 := same_upd (o := .tup [.int (i : Nat), x2]) nt
    have sb := sa.trans s9
    obtain ⟨b, rfl, hb⟩ := pr_dp (dp_same sb dp)
    have il : i < ts.length := by omega
    have ep : ts.getD i (0, 0) = pr := by rw [List.getD_eq_getElem?_getD, gp]; rfl
    refine ⟨tt, _, rfl, .inl (.inl upd_same), rfl, _, _, rfl, _, _, rfl, b, _, rfl, hb, rfl, _, _, rfl, _, _, rfl, rfl, rfl, ?_⟩
    clear hb
    generalize upd Ha tt (.tup [.int (i : Nat), .ref b]) = Hc at sb ⊢
    simp only [gName, List.set]
    refine seq_mid (fun σ Hx => ∃ v6 v7, σ = [some (.ref p), some (.ref a), some (.int L), some (.int (i : Nat)), some (.int pr.1), some (.int pr.2), v6, v7] ∧ Same H Hx) (fun N hN => ?_) (fun σ Hx h => ?_)
    · refine ⟨_, rfl, _, _, rfl, rfl, _, _, rfl, rfl, ⟨by decide, by decide, by decide⟩, (by show 4 ≤ sizeLine; decide), fun t5 nt5 => ?_⟩
      obtain ⟨os, eos⟩ : ∃ os : List Int, os = [(0 : Int), (1 : Int), (7 : Int) + ((i : Nat) : Int), (10 : Int) ^ (6 : Int).toNat] := ⟨_, rfl⟩
      rw [show [V.int 0, V.int 1, V.int ((7 : Int) + ((i : Nat) : Int)), V.int ((10 : Int) ^ (6 : Int).toNat)] = os.map V.int by rw [eos]; rfl]
      have hos : ∀ o ∈ os, 0 ≤ o ∧ o ≤ 1000000 := fun o ho => by
        rw [eos] at ho
        have p6 : (10 : Int) ^ (6 : Int).toNat = 1000000 := by decide
        rw [p6] at ho
        simp only [List.mem_cons, List.not_mem_nil, or_false] at ho
        rcases ho with rfl | rfl | rfl | rfl <;> omega
      have s10 := sb.trans (same_upd (o := .tup (os.map V.int)) nt5)
      have ht5 : upd Hc t5 (.tup (os.map V.int)) t5 = some (.tup (os.map V.int)) := upd_same
      generalize upd Hc t5 (.tup (os.map V.int)) = Hd at s10 ht5 ⊢
      refine ⟨t5, rfl, ⟨_, .inl (.inl ht5)⟩, ?_⟩
      refine for_it (walk_tup (xs := os.map V.int)) (fun j σ Hx => ∃ v6 v7, σ = [some (.ref p), some (.ref a), some (.int L), some (.int (i : Nat)), some (.int pr.1), some (.int pr.2), v6, v7] ∧ Same Hd Hx) ⟨_, _, rfl, Same.refl _⟩ (fun j σ Hx _ z => by obtain ⟨_, _, _, z⟩ := z; exact (.inl (.inl (z _ _ ht5)) : SqT K Hx t5 _)) ?_ ?_
      rotate_left
      · rintro σ Hx ⟨v6, v7, rfl, z⟩
        exact hN _ _ ⟨_, _, rfl, s10.trans z⟩
      rintro j y σ _ Hx hj ⟨v6, v7, rfl, sx⟩ ⟨rfl, gy⟩
      rw [List.getElem?_map] at gy
      obtain ⟨o, go, rfl⟩ := Option.map_eq_some_iff.mp gy
      obtain ⟨o0, o1⟩ := hos o (List.mem_of_getElem? go)
      have cm : CMul o L := .inl ⟨by omega, by omega⟩
      have s11 := s10.trans sx
      simp only [gName, List.set]
      have M11 := M.same s11
      refine ⟨_, rfl, _, rfl, _, rfl, _, _, rfl, rfl, cm, _, _, rfl, rfl, _, rfl, _, rfl, _, rfl, _, _, rfl, rfl, cm, _, _, rfl, rfl, (by show 2 ≤ sizeLine; decide), fun t6 nt6 => ?_⟩
      have s13 := same_upd (o := .tup [V.int (pr.1 + o * L), .int (pr.2 + o * L)]) nt6
      have ht6 : upd Hx t6 (.tup [V.int (pr.1 + o * L), .int (pr.2 + o * L)]) t6 = some (.tup [V.int (pr.1 + o * L), .int (pr.2 + o * L)]) := upd_same
      generalize upd Hx t6 (.tup [V.int (pr.1 + o * L), .int (pr.2 + o * L)]) = He at s13 ht6 ⊢
      simp only [gName, List.set]
      refine ⟨_, rfl, p, dx, _, rfl, s13 _ _ (s11 _ _ hp), tf_pair _ _, _, rfl, _, rfl, p, ts, L, i, o, rfl, M11.same s13, cm, il, by omega, fun u nu => ?_⟩
      rw [ep]
      have s14 := same_upd (o := .tup [V.int (prN pr o L).1, .int (prN pr o L).2]) nu
      refine ⟨_, rfl, .ref u, .ref t6, prD (prN pr o L), (prN pr o L).1.natAbs + (prN pr o L).2.natAbs, rfl, .tup (.inl (.inl upd_same)) (.cons (.int _) (.cons (.int _) .nil)), .tup (.inl (.inl (s14 _ _ ht6))) (.cons (.int _) (.cons (.int _) .nil)), (by show max 0 (max 0 0) + 1 < 3; decide), (by show max 2 (max 0 (max 0 0)) ≤ 1000; decide), ⟨by show Int.natAbs _ ≤ _; omega, by show Int.natAbs _ ≤ _; omega, trivial⟩, fun H' s15 => ⟨true, rfl, iteF ?_⟩⟩
      exact ⟨_, _, rfl, ((sx.trans s13).trans s14).trans s15⟩
    obtain ⟨v6, v7, rfl, s12⟩ := h
    have cm : CMul 0 L := .inl ⟨by decide, by decide⟩
    refine ⟨_, rfl, p, dx, _, rfl, s12 _ _ hp, tf_pair _ _, _, rfl, p, ts, L, i, 0, rfl, M.same s12, cm, il, by omega, fun u nu => ?_⟩
    rw [ep]
    have e0 : prN pr 0 L = pr := by unfold prN; rw [Int.zero_mul, Int.add_zero, Int.add_zero]
    rw [e0]
    have s13 := same_upd (o := .tup [V.int pr.1, .int pr.2]) nu
    have hu : upd Hx u (.tup [V.int pr.1, .int pr.2]) u = some (.tup [V.int pr.1, .int pr.2]) := upd_same
    generalize upd Hx u (.tup [V.int pr.1, .int pr.2]) = Hy at s13 hu ⊢
    refine ⟨_, rfl, _, rfl, (by show 2 ≤ sizeLine; decide), fun t6 nt6 => ?_⟩
    have s14 := same_upd (o := .tup [V.int pr.1, .int pr.2]) nt6
    refine ⟨.ref u, .ref t6, prD pr, pr.1.natAbs + pr.2.natAbs, rfl, .tup (.inl (.inl (s14 _ _ hu))) (.cons (.int _) (.cons (.int _) .nil)), .tup (.inl (.inl upd_same)) (.cons (.int _) (.cons (.int _) .nil)), (by show max 0 (max 0 0) + 1 < 3; decide), (by show max 2 (max 0 (max 0 0)) ≤ 1000; decide), ⟨by show Int.natAbs _ ≤ _; omega, by show Int.natAbs _ ≤ _; omega, trivial⟩, fun H' s15 => ⟨true, rfl, iteF ?_⟩⟩
    exact ⟨_, _, _, _, _, rfl, ((s12.trans s13).trans s14).trans s15⟩

end
end Pot

namespace Pot
open PySem PySem.Spec PyProof.Rows L2
section
variable {P : Program} {w : World} {K : PySem.W.Frag} {mg : Str → Option Value} {base : Heap}
abbrev s__law_unlike : Stmt := topS 10
def n__law_unlike : List Str := ["_law_state", "_law_times", "_law_length", "_law_way", "_law_at", "_law_fill", "_law_work", "_law_pair"]
theorem sc__law_unlike : FnScope n__law_unlike ["_law_state", "_law_times", "_law_length"] (defScope s__law_unlike) := ⟨rfl, rfl, rfl, by decide +kernel, rfl, by decide +kernel, by decide +kernel⟩
def NmP (p : Pr) : Prop := NumOk p.1 ∧ NumOk p.2
/-- nearly so -/
def NmQ (p : Pr) : Prop := (-9 ≤ p.1 ∧ p.1 ≤ 1000000000001) ∧ -9 ≤ p.2 ∧ p.2 ≤ 1000000000001
theorem NmP.q {p : Pr} (h : NmP p) : NmQ p := by
  obtain ⟨⟨a, b⟩, c, d⟩ := h
  exact ⟨⟨a, by omega⟩, c, by omega⟩
theorem NmQ.ok {p : Pr} (h : NmQ p) : PrOk p := by
  obtain ⟨⟨a, b⟩, c, d⟩ := h
  have e : (2000000000000 : Nat) < 10 ^ 60 := by decide
  constructor <;> (unfold FigOk; omega)
theorem cut_prs {H : Hp} {xs : List V} {ts : List Pr} (h : DpAll K H xs (ts.map prD)) (lo hi : Option Int) : ∃ ss : List Pr, DpAll K H (cutV xs lo hi) (ss.map prD) ∧ ss.length ≤ ts.length := by
  refine ⟨(ts.drop (HT.sIx xs.length 0 lo)).take (HT.sIx xs.length xs.length hi - HT.sIx xs.length 0 lo), ?_, ?_⟩
  · rw [List.map_take, List.map_drop]
    exact dpAll_take _ (dpAll_drop _ h)
  · rw [List.length_take, List.length_drop]
    omega
theorem prL_shaped (ts : List Pr) : SeqAt.shaped (.list (ts.map prD)) = true := by
  have h2 : PyData.depthAll (ts.map prD) ≤ 1 := depthAll_map fun r _ => by show max 0 (max 0 0) + 1 ≤ 1; decide
  show (PyData.canLayAll0 (ts.map prD) && decide (PyData.depthAll (ts.map prD) + 1 ≤ 64)) = true
  rw [prs_lay, decide_eq_true (by omega)]; rfl
theorem pr_same {H H' : Hp} {xs : List V} {ts : List Pr} {S : List Addr} (h : DpAll K (off H S) xs (ts.map prD)) (s : Sm S H H') : DpAll K H' xs (ts.map prD) := dpAll_same off_sub (dpAll_same s h)
def spUnl (K : PySem.W.Frag) : Sp := fun vs H Q _ => ∃ (d c a : Addr) (n : Nat) (xs : List V) (ts : List Pr) (L : Int), vs = [.ref d, .ref a, .int L] ∧ StAt H d c n ∧ n + 10 < 2 ^ 40 ∧ off H [d, c] a = some (.lst xs) ∧ DpAll K (off H [d, c]) xs (ts.map prD) ∧ ts ≠ [] ∧ ts.length ≤ 12 ∧
  ∀ (H' : Hp) (t R : Addr) (us : List V) (ss : List Pr) (M : Int), Sm [d, c] H H' → StAt H' d c (n + 10) → H' t = some (.tup [.ref R, .int M]) → H R = none → H' R = some (.lst us) → DpAll K H' us (ss.map prD) → ss.length ≤ 30 → Q (.ref t) H'
set_option maxHeartbeats 1000000 in
theorem ok_unl {f : Addr} {fd : FuncData} {k : Nat} (F : Fun K "_law_unlike" "_law_unlike" s__law_unlike f fd) (T : Txt mg) (c__law_take : Cl P w K mg base 1 "_law_take" spTake) : FnOk P w K mg base CX0 (k + 2) f fd ["_law_state", "_law_times", "_law_length"] (spUnl K) := by
  refine F.ok sc__law_unlike (fun vs H Q E h => ?_) (fun cdv A outer s H vs Q E hr h => ?_)
  · obtain ⟨d, c, a, n, xs, ts, L, rfl, _⟩ := h
    rfl
  · obtain ⟨d, c, a, n, xs, ts, L, rfl, S, hn, ha, hx, ne, l, q⟩ := h
    have nd := sc__law_unlike.nd
    have hu64 := hr.units
    /- 0 _law_state, 1 _law_times, 2 _law_length, 3 _law_way, 4 _law_at, 5 _law_fill, 6 _law_work, 7 _law_pair -/
    refine ⟨_, (pss_cons (ps_par (i := 3) (j := 4) rfl nd rfl rfl (by decide) rfl rfl (pa_cons (pe_cl c__law_take hr (by omega) (by rfl) (pa_cons (pv 0) (pa_cons pe_int pa_nil))) (pa_cons (pe_cl c__law_take hr (by omega) (by rfl) (pa_cons (pv 0) (pa_cons (pe_op op_add (pe_callB (kc_len (K := K)) (by rfl) T.len PySem.boot_len (pa_cons (pv 1) pa_nil)) pe_int) pa_nil))) pa_nil)) rfl)
      (pss_cons (ps_if (pt_cmpR op_eq (pv 3) pe_int (nomark _))
          (pss_one (ps_ret (pe_tup (pa_cons (pe_callTy (kc_list (K := K)) (by rfl) T.list (by decide +kernel) (pa_cons (pv 1) pa_nil)) (pa_cons (pe_op op_add (pv 2) pe_int) pa_nil)))))
          pss_nil)
      (pss_cons (ps_if ((pw_and (pt_cmpR op_eq (pv 3) pe_int (nomark _)) (pw_and1 (pt_cmpR op_lt (pe_callB (kc_len (K := K)) (by rfl) T.len PySem.boot_len (pa_cons (pv 1) pa_nil)) pe_int (nomark _))))).pt
          (pss_one (ps_ret (pe_tup (pa_cons (pe_op op_cat (pe_op op_cat (pe_slice (kl_list (K := K)) (pv 1) po_none (po_some (pv 4))) (pe_lst (pa_cons (pe_tup (pa_cons pe_int (pa_cons pe_int pa_nil))) pa_nil))) (pe_slice (kl_list (K := K)) (pv 1) (po_some (pv 4)) po_none)) (pa_cons (pv 2) pa_nil)))))
          pss_nil)
      (pss_cons (ps_if ((pw_and (pt_cmpR op_eq (pv 3) pe_int (nomark _)) (pw_and1 (pt_cmpR op_gt (pe_callB (kc_len (K := K)) (by rfl) T.len PySem.boot_len (pa_cons (pv 1) pa_nil)) pe_int (nomark _))))).pt
          (pss_one (ps_ret (pe_tup (pa_cons (pe_slice (kl_list (K := K)) (pv 1) po_none (po_some (pe_un un_neg pe_int))) (pa_cons (pv 2) pa_nil)))))
          pss_nil)
      (pss_cons (ps_if ((pw_and (pt_cmpR op_eq (pv 3) pe_int (nomark _)) (pw_and1 (pt_cmpR (ko_ne (K := K) hu64) (pv 1) (pe_lst pa_nil) (nomark _))))).pt
          (pss_cons (ps_set (i := 4) nd rfl (.inl rfl) (pe_cl c__law_take hr (by omega) (by rfl) (pa_cons (pv 0) (pa_cons (pe_callB (kc_len (K := K)) (by rfl) T.len PySem.boot_len (pa_cons (pv 1) pa_nil)) pa_nil))))
          (pss_cons (ps_asg (pe_ix (kx_list (K := K)) (pv 1) (pv 4) (fun _ _ => rfl)) (kg_tup (K := K) (n := 2) (pgs_cons (pg_name (i := 5) nd rfl (.inl rfl)) (pgs_cons (pg_name (i := 6) nd rfl (.inl rfl)) pgs_nil))))
          (pss_cons (ps_set (i := 7) nd rfl (.inl rfl) (pe_ix (kx_list (K := K)) (pe_lst (pa_cons (pe_tup (pa_cons (pe_op op_add (pv 5) pe_int) (pa_cons (pv 6) pa_nil))) (pa_cons (pe_tup (pa_cons (pv 5) (pa_cons (pe_op op_add (pv 6) pe_int) pa_nil))) (pa_cons (pe_tup (pa_cons (pv 6) (pa_cons (pv 5) pa_nil))) pa_nil)))) (pe_cl c__law_take hr (by omega) (by rfl) (pa_cons (pv 0) (pa_cons pe_int pa_nil))) (fun _ _ => rfl)))
          (pss_one (ps_ret (pe_tup (pa_cons (pe_op op_cat (pe_op op_cat (pe_slice (kl_list (K := K)) (pv 1) po_none (po_some (pv 4))) (pe_lst (pa_cons (pv 7) pa_nil))) (pe_slice (kl_list (K := K)) (pv 1) (po_some (pe_op op_add (pv 4) pe_int)) po_none)) (pa_cons (pv 2) pa_nil))))))))
          pss_nil)
      (pss_cons (ps_if (pt_cmpR op_eq (pv 3) pe_int (nomark _))
          (pss_one (ps_ret (pe_tup (pa_cons (pe_revL (pv 1)) (pa_cons (pv 2) pa_nil)))))
          pss_nil)
      (pss_one (ps_ret (pe_tup (pa_cons (pe_callTy (kc_list (K := K)) (by rfl) T.list (by decide +kernel) (pa_cons (pv 1) pa_nil)) (pa_cons (pv 2) pa_nil))))))))))), ?_⟩
    have lx : xs.length = ts.length := dpAll_map_len hx
    have na := off_mem ha
    have ha0 : H a = some (.lst xs) := by rw [off_out na] at ha; exact ha
    have atH : ∀ {H' : Hp}, Sm [d, c] H H' → H' a = some (.lst xs) := fun s => sm_at s na ha0
    refine ⟨_, rfl, d, c, 6, n, rfl, by decide, by decide, S, by omega, fun H1 wy w0 w1 S1 s1 => ?_⟩
    refine ⟨_, rfl, _, rfl, _, _, rfl, .inl ⟨_, SqL.of (atH s1), rfl⟩, _, _, rfl, rfl, d, c, _, _, rfl, by omega, by rw [lx]; omega, S1, by omega, fun H2 at_ a0 a1 S2 s2 => ⟨_, _, rfl, ?_⟩⟩
    have g2 := s1.trans s2
    have dx2 := pr_same hx g2
    have ha2 := atH g2
    simp only [gName, List.set]
    have fr : ∀ x, H2 x = none → H x = none := fun x => st_free g2 S2
    -- how it ends: a list R of these, told beside a number
    have fin : ∀ (Hb : Hp) (g : Sm [d, c] H Hb) (Sb : StAt Hb d c (n + 8)) (H3 : Hp) (R : Addr) (us : List V) (ss : List Pr) (M : Int), Same Hb H3 → Hb R = none → H3 R = some (.lst us) → DpAll K H3 us (ss.map prD) → ss.length ≤ 30 → ∀ t, H3 t = none → Q (.ref t) (upd H3 t (.tup [.ref R, .int M])) := fun Hb g Sb H3 R us ss M s3 nR hR dR lR t nt => by
      have s4 := s3.trans (same_upd (o := .tup [V.ref R, .int M]) nt)
      exact q _ t R us ss M (g.trans (sm_of s4)) ((Sb.mono (by omega)).same s4) upd_same (st_free g Sb nR) (same_upd nt _ _ hR) (dpAll_same (same_upd nt) dR) lR
    have S2' : StAt H2 d c (n + 8) := S2.mono (by omega)
    have cpy : ∀ M : Int, ∀ R, H2 R = none → ∀ t, upd H2 R (.lst xs) t = none → Q (.ref t) (upd (upd H2 R (.lst xs)) t (.tup [.ref R, .int M])) := fun M R nR t nt => fin H2 g2 S2' _ R xs ts M (same_upd nR) nR upd_same (dpAll_same (same_upd nR) dx2) (by omega) t nt
    refine ⟨_, rfl, rfl, _, rfl, ite2 (fun _ => ?_) (fun _ => ?_)⟩
    · exact ⟨_, rfl, a, xs, rfl, .inl (SqL.of ha2), fun R nR => ⟨_, rfl, _, _, rfl, rfl, (by show 2 ≤ sizeLine; decide), fun t nt => cpy _ R nR t nt⟩⟩
    dsimp only [tNext]
    obtain ⟨k, rfl⟩ : ∃ k : Nat, at_ = (k : Int) := ⟨at_.toNat, by omega⟩
    refine seq_mid (fun σ Hx => σ = [some (.ref d), some (.ref a), some (.int L), some (.int wy), some (.int (k : Nat)), none, none, none] ∧ Hx = H2) (fun N hN => ?_) (fun σ Hx h => ?_)
    · refine ⟨_, rfl, rfl, _, rfl, ite2 (fun _ => ?_) (fun _ => iteF (hN _ _ ⟨rfl, rfl⟩))⟩
      refine ⟨_, rfl, _, _, rfl, .inl ⟨_, SqL.of ha2, rfl⟩, _, _, rfl, rfl, _, rfl, ite2 (fun _ => ?_) (fun _ => hN _ _ ⟨rfl, rfl⟩)⟩
      refine ⟨_, rfl, _, rfl, _, rfl, a, xs, rfl, SqL.of ha2, fun R1 n1 => ?_⟩
      have c1 := same_upd (o := .lst (cutV xs none (some (k : Int)))) n1
      have h1 : upd H2 R1 (.lst (cutV xs none (some (k : Int)))) R1 = some (.lst (cutV xs none (some (k : Int)))) := upd_same
      generalize upd H2 R1 (.lst (cutV xs none (some (k : Int)))) = C1 at c1 h1 ⊢
      refine ⟨(by show 2 ≤ sizeLine; decide), fun b nb => ?_⟩
      have c2 := c1.trans (same_upd (o := .tup [V.int 7, .int 9]) nb)
      have hb : upd C1 b (.tup [V.int 7, .int 9]) b = some (.tup [V.int 7, .int 9]) := upd_same
      have h2 := same_upd (o := .tup [V.int 7, .int 9]) nb _ _ h1
      generalize upd C1 b (.tup [V.int 7, .int 9]) = C2 at c2 hb h2 ⊢
      refine ⟨(by show 1 ≤ sizeLine; decide), fun R2 n2 => ?_⟩
      have c3 := same_upd (o := .lst [V.ref b]) n2
      have c3a := c2.trans c3
      have h3 : upd C2 R2 (.lst [V.ref b]) R2 = some (.lst [V.ref b]) := upd_same
      have hb3 := c3 _ _ hb
      generalize upd C2 R2 (.lst [V.ref b]) = C3 at c3 c3a h3 hb3 ⊢
      refine ⟨R1, R2, _, _, rfl, rfl, c3 _ _ h2, h3, (by have := cutV_length xs none (some (k : Int)); rw [sizeLine_eq]; show _ + 1 ≤ _; omega), fun R3 n3 => ?_⟩
      have c4 := same_upd (o := .lst (cutV xs none (some (k : Int)) ++ [V.ref b])) n3
      have h4 : upd C3 R3 (.lst (cutV xs none (some (k : Int)) ++ [V.ref b])) R3 = some (.lst (cutV xs none (some (k : Int)) ++ [V.ref b])) := upd_same
      generalize upd C3 R3 (.lst (cutV xs none (some (k : Int)) ++ [V.ref b])) = C4 at c4 h4 ⊢
      have cAll := c3a.trans c4
      refine ⟨_, rfl, _, rfl, _, rfl, a, xs, rfl, SqL.of (cAll _ _ ha2), fun R4 n4 => ?_⟩
      have c5 := same_upd (o := .lst (cutV xs (some (k : Int)) none)) n4
      have h5 : upd C4 R4 (.lst (cutV xs (some (k : Int)) none)) R4 = some (.lst (cutV xs (some (k : Int)) none)) := upd_same
      generalize upd C4 R4 (.lst (cutV xs (some (k : Int)) none)) = C5 at c5 h5 ⊢
      have cAll := cAll.trans c5
      refine ⟨R3, R4, _, _, rfl, rfl, c5 _ _ h4, h5, (by have := cutV_length xs none (some (k : Int)); have := cutV_length xs (some (k : Int)) none; rw [List.length_append, sizeLine_eq]; show _ + 1 + _ ≤ _; omega), fun R5 n5 => ?_⟩
      have f5 := cAll.free n5
      obtain ⟨sa, da, la⟩ := cut_prs dx2 none (some (k : Int))
      obtain ⟨sb, db, lb⟩ := cut_prs dx2 (some (k : Int)) none
      have c6 := same_upd (o := .lst (cutV xs none (some (k : Int)) ++ [V.ref b] ++ cutV xs (some (k : Int)) none)) n5
      have cAll := cAll.trans c6
      refine ⟨_, rfl, (by show 2 ≤ sizeLine; decide), fun t nt => fin H2 g2 S2' _ R5 _ (sa ++ [(7, 9)] ++ sb) L cAll (f5) upd_same ?_ ?_ t nt⟩
      · rw [List.map_append, List.map_append]
        exact dpAll_app' (dpAll_app' (dpAll_same cAll da) (.cons (.tup (.inl (.inl (c6 _ _ (c5 _ _ (c4 _ _ hb3))))) (.cons (.int _) (.cons (.int _) .nil))) .nil)) (dpAll_same cAll db)
      · rw [List.length_append, List.length_append]
        show sa.length + 1 + sb.length ≤ 30
        omega
    obtain ⟨rfl, rfl⟩ := h
    refine seq_mid (fun σ H3 => σ = [some (.ref d), some (.ref a), some (.int L), some (.int wy), some (.int (k : Nat)), none, none, none] ∧ H3 = Hx) (fun N hN => ?_) (fun σ H3 h => ?_)
    · refine ⟨_, rfl, rfl, _, rfl, ite2 (fun _ => ?_) (fun _ => iteF (hN _ _ ⟨rfl, rfl⟩))⟩
      refine ⟨_, rfl, _, _, rfl, .inl ⟨_, SqL.of ha2, rfl⟩, _, _, rfl, rfl, _, rfl, ite2 (fun _ => ?_) (fun _ => hN _ _ ⟨rfl, rfl⟩)⟩
      refine ⟨_, rfl, _, rfl, _, rfl, a, xs, rfl, SqL.of ha2, fun R nR => ⟨_, rfl, (by show 2 ≤ sizeLine; decide), fun t nt => ?_⟩⟩
      obtain ⟨sa, da, la⟩ := cut_prs dx2 none (some (-1))
      exact fin Hx g2 S2' _ R _ sa L (same_upd nR) nR upd_same (dpAll_same (same_upd nR) da) (by omega) t nt
    obtain ⟨rfl, rfl⟩ := h
    refine seq_mid (fun σ H4 => σ = [some (.ref d), some (.ref a), some (.int L), some (.int wy), some (.int (k : Nat)), none, none, none] ∧ Same H3 H4) (fun N hN => ?_) (fun σ H4 h => ?_)
    · refine ⟨_, rfl, rfl, _, rfl, ite2 (fun _ => ?_) (fun _ => iteF (hN _ _ ⟨rfl, Same.refl _⟩))⟩
      refine ⟨_, rfl, Nat.zero_le _, fun R0 nR0 => ?_⟩
      have s0 := same_upd (o := .lst []) nR0
      refine ⟨_, _, .lst (SqL.of (s0 _ _ ha2)) (dpAll_same s0 dx2), .lst (SqL.of upd_same) .nil, prL_shaped ts, rfl, _, rfl, ?_⟩
      have en : (!PyData.eqv (.list (ts.map prD)) (.list [])) = true := by
        obtain ⟨p, r, rfl⟩ := List.exists_cons_of_ne_nil ne
        rfl
      rw [en]
      refine iteT ?_
      generalize upd H3 R0 (.lst []) = H4 at s0 ⊢
      have a4 := s0 _ _ ha2
      have S4 := S2'.same s0
      refine ⟨_, rfl, _, rfl, _, _, rfl, .inl ⟨_, SqL.of a4, rfl⟩, d, c, _, n + 2, rfl, (by rw [lx]; have := List.length_pos_iff.mpr ne; omega), (by rw [lx]; omega), S2.same s0, by omega, fun H5 ix i0 i1 S5 s5 => ?_⟩
      have g5 := (g2.trans (sm_of s0)).trans s5
      have a5 := atH g5
      obtain ⟨j, rfl⟩ : ∃ j : Nat, ix = (j : Int) := ⟨ix.toNat, by omega⟩
      have hj : j < xs.length := by omega
      obtain ⟨pr, gp, dp⟩ := dpAll_map_at (pr_same hx g5) (List.getElem?_eq_getElem hj)
      obtain ⟨b0, eb0, hb0⟩ := pr_dp dp
      have gx : atI xs (j : Int) = some (.ref b0) := by rw [← eb0]; exact atI_nat (List.getElem?_eq_getElem hj)
      simp only [gName, List.set]
      refine ⟨_, rfl, _, rfl, a, _, _, _, rfl, rfl, SqL.of a5, gx, b0, _, rfl, hb0, rfl, _, _, rfl, _, _, rfl, rfl, ?_⟩
      simp only [gName, List.set]
      refine ⟨_, rfl, _, _, rfl, rfl, _, rfl, (by show 2 ≤ sizeLine; decide), fun b1 nb1 => ?_⟩
      have e1 := same_upd (o := .tup [V.int (pr.1 + 1), .int pr.2]) nb1
      have hb1 : upd H5 b1 (.tup [V.int (pr.1 + 1), .int pr.2]) b1 = some (.tup [V.int (pr.1 + 1), .int pr.2]) := upd_same
      generalize upd H5 b1 (.tup [V.int (pr.1 + 1), .int pr.2]) = E1 at e1 hb1 ⊢
      refine ⟨_, rfl, _, rfl, _, _, rfl, rfl, (by show 2 ≤ sizeLine; decide), fun b2 nb2 => ?_⟩
      have e2 := same_upd (o := .tup [V.int pr.1, .int (pr.2 + 1)]) nb2
      have hb2 : upd E1 b2 (.tup [V.int pr.1, .int (pr.2 + 1)]) b2 = some (.tup [V.int pr.1, .int (pr.2 + 1)]) := upd_same
      generalize upd E1 b2 (.tup [V.int pr.1, .int (pr.2 + 1)]) = E2 at e2 hb2 ⊢
      refine ⟨_, rfl, _, rfl, (by show 2 ≤ sizeLine; decide), fun b3 nb3 => ?_⟩
      have e3 := same_upd (o := .tup [V.int pr.2, .int pr.1]) nb3
      have hb3' : upd E2 b3 (.tup [V.int pr.2, .int pr.1]) b3 = some (.tup [V.int pr.2, .int pr.1]) := upd_same
      generalize upd E2 b3 (.tup [V.int pr.2, .int pr.1]) = E3 at e3 hb3' ⊢
      refine ⟨(by show 3 ≤ sizeLine; decide), fun RL nRL => ?_⟩
      have e4 := same_upd (o := .lst [V.ref b1, .ref b2, .ref b3]) nRL
      have hRL : upd E3 RL (.lst [V.ref b1, .ref b2, .ref b3]) RL = some (.lst [V.ref b1, .ref b2, .ref b3]) := upd_same
      have e14 := ((e1.trans e2).trans e3).trans e4
      have hb1 := e4 _ _ (e3 _ _ (e2 _ _ hb1))
      have hb2 := e4 _ _ (e3 _ _ hb2)
      have hb3' := e4 _ _ hb3'
      generalize upd E3 RL (.lst [V.ref b1, .ref b2, .ref b3]) = E4 at e14 hRL hb1 hb2 hb3' ⊢
      have SE := S5.same e14
      have g6 := g5.trans (sm_of e14)
      have notS : ∀ {x : Addr} {ob : HO}, E4 x = some ob → (∀ us, ob = .tup us → x ≠ d ∧ x ≠ c) := fun {x ob} e us eo => by
        obtain ⟨ndc, xs', t', hd', hc', _⟩ := SE
        constructor
        · intro z; rw [z, hd'] at e; rw [eo] at e; cases e
        · intro z; rw [z, hc'] at e; rw [eo] at e; cases e
      have nRd : RL ≠ d ∧ RL ≠ c := ⟨(S5.same ((e1.trans e2).trans e3)).nd nRL, (S5.same ((e1.trans e2).trans e3)).nc nRL⟩
      refine ⟨_, rfl, d, c, 3, _, rfl, by decide, by decide, SE, by omega, fun H7 y y0 y1 S7 s7 => ?_⟩
      have g7 := g6.trans s7
      have hRL7 := sm2_at s7 nRd.1 nRd.2 hRL
      obtain ⟨b, pp, eb, hb⟩ : ∃ (b : Addr) (pp : Pr), atI [V.ref b1, .ref b2, .ref b3] y = some (.ref b) ∧ H7 b = some (.tup [.int pp.1, .int pp.2]) := by
        have h : y = 0 ∨ y = 1 ∨ y = 2 := by omega
        rcases h with rfl | rfl | rfl
        · exact ⟨b1, (pr.1 + 1, pr.2), rfl, sm2_at s7 (notS hb1 _ rfl).1 (notS hb1 _ rfl).2 hb1⟩
        · exact ⟨b2, (pr.1, pr.2 + 1), rfl, sm2_at s7 (notS hb2 _ rfl).1 (notS hb2 _ rfl).2 hb2⟩
        · exact ⟨b3, (pr.2, pr.1), rfl, sm2_at s7 (notS hb3' _ rfl).1 (notS hb3' _ rfl).2 hb3'⟩
      refine ⟨RL, _, y, _, rfl, rfl, SqL.of hRL7, eb, ?_⟩
      have S7 : StAt H7 d c (n + 8) := S7.mono (by omega)
      have ha7 := atH g7
      have dx7 := pr_same hx g7
      clear hb1 hb2 hb3' hRL e1 e2 e3 e4 hRL7 notS eb
      simp only [gName, List.set]
      refine ⟨_, rfl, _, rfl, _, rfl, a, xs, rfl, SqL.of ha7, fun R1 n1 => ?_⟩
      have c1 := same_upd (o := .lst (cutV xs none (some (j : Int)))) n1
      have h1 : upd H7 R1 (.lst (cutV xs none (some (j : Int)))) R1 = some (.lst (cutV xs none (some (j : Int)))) := upd_same
      generalize upd H7 R1 (.lst (cutV xs none (some (j : Int)))) = C1 at c1 h1 ⊢
      have c2 := c1
      have h2 := h1
      refine ⟨_, rfl, (by show 1 ≤ sizeLine; decide), fun R2 n2 => ?_⟩
      have c3 := same_upd (o := .lst [V.ref b]) n2
      have c3a := c2.trans c3
      have h3 : upd C1 R2 (.lst [V.ref b]) R2 = some (.lst [V.ref b]) := upd_same
      have hb3 := c3a _ _ hb
      generalize upd C1 R2 (.lst [V.ref b]) = C3 at c3 c3a h3 hb3 ⊢
      refine ⟨R1, R2, _, _, rfl, rfl, c3 _ _ h2, h3, (by have := cutV_length xs none (some (j : Int)); rw [sizeLine_eq]; show _ + 1 ≤ _; omega), fun R3 n3 => ?_⟩
      have c4 := same_upd (o := .lst (cutV xs none (some (j : Int)) ++ [V.ref b])) n3
      have h4 : upd C3 R3 (.lst (cutV xs none (some (j : Int)) ++ [V.ref b])) R3 = some (.lst (cutV xs none (some (j : Int)) ++ [V.ref b])) := upd_same
      generalize upd C3 R3 (.lst (cutV xs none (some (j : Int)) ++ [V.ref b])) = C4 at c4 h4 ⊢
      have cAll := c3a.trans c4
      refine ⟨_, rfl, _, rfl, _, _, rfl, rfl, _, rfl, a, xs, rfl, SqL.of (cAll _ _ ha7), fun R4 n4 => ?_⟩
      have c5 := same_upd (o := .lst (cutV xs (some ((j : Int) + 1)) none)) n4
      have h5 : upd C4 R4 (.lst (cutV xs (some ((j : Int) + 1)) none)) R4 = some (.lst (cutV xs (some ((j : Int) + 1)) none)) := upd_same
      generalize upd C4 R4 (.lst (cutV xs (some ((j : Int) + 1)) none)) = C5 at c5 h5 ⊢
      have cAll := cAll.trans c5
      refine ⟨R3, R4, _, _, rfl, rfl, c5 _ _ h4, h5, (by have := cutV_length xs none (some (j : Int)); have := cutV_length xs (some ((j : Int) + 1)) none; rw [List.length_append, sizeLine_eq]; show _ + 1 + _ ≤ _; omega), fun R5 n5 => ?_⟩
      have f5 := cAll.free n5
      obtain ⟨sa, da, la⟩ := cut_prs dx7 none (some (j : Int))
      obtain ⟨sb, db, lb⟩ := cut_prs dx7 (some ((j : Int) + 1)) none
      have c6 := same_upd (o := .lst (cutV xs none (some (j : Int)) ++ [V.ref b] ++ cutV xs (some ((j : Int) + 1)) none)) n5
      have cAll := cAll.trans c6
      refine ⟨_, rfl, (by show 2 ≤ sizeLine; decide), fun t nt => fin H7 g7 S7 _ R5 _ (sa ++ [pp] ++ sb) L cAll (f5) upd_same ?_ ?_ t nt⟩
      · rw [List.map_append, List.map_append]
        exact dpAll_app' (dpAll_app' (dpAll_same cAll da) (.cons (.tup (.inl (.inl (c6 _ _ (c5 _ _ (c4 _ _ hb3))))) (.cons (.int _) (.cons (.int _) .nil))) .nil)) (dpAll_same cAll db)
      · rw [List.length_append, List.length_append]
        show sa.length + 1 + sb.length ≤ 30
        omega
    obtain ⟨rfl, s4⟩ := h
    refine ⟨_, rfl, rfl, _, rfl, ite2 (fun _ => ?_) (fun _ => ?_)⟩
    · refine ⟨_, rfl, a, xs, rfl, SqL.of (s4 _ _ ha2), fun R nR => ⟨_, rfl, (by show 2 ≤ sizeLine; decide), fun t nt => ?_⟩⟩
      have e : (ts.map prD).reverse = ts.reverse.map prD := by rw [List.map_reverse]
      have sr := s4.trans (same_upd (o := .lst xs.reverse) nR)
      have dr := dpAll_rev (dpAll_same sr dx2)
      rw [e] at dr
      exact fin H3 g2 S2' _ R _ ts.reverse L sr (s4.free nR) upd_same dr (by rw [List.length_reverse]; omega) t nt
    · refine ⟨_, rfl, a, xs, rfl, .inl (SqL.of (s4 _ _ ha2)), fun R nR => ⟨_, rfl, (by show 2 ≤ sizeLine; decide), fun t nt => ?_⟩⟩
      exact fin H3 g2 S2' _ R xs ts L (s4.trans (same_upd nR)) (s4.free nR) upd_same (dpAll_same (s4.trans (same_upd nR)) dx2) (by omega) t nt

end
end Pot

namespace Pot
open PySem PySem.Spec PyProof.Rows L2
section
variable {P : Program} {w : World} {K : PySem.W.Frag} {mg : Str → Option Value} {base : Heap}
/-- things of other kinds -/
def OthV (H : Hp) (x : V) : Prop := x = .non ∨ (∃ i, x = .int i) ∨ (∃ z, x = .str z) ∨ (∃ a us, x = .ref a ∧ H a = some (.lst us)) ∨ ∃ a us, x = .ref a ∧ H a = some (.tup us)
structure KinE (K : PySem.W.Frag) (C : Addr) : Prop where
  k : ∀ T ∈ ["NoneType", "int", "str", "list", "tuple"], PySem.W.notFirst K C (.type T) = true ∧ PySem.W.kitOne K (.type T) (.ref C) = some false
theorem OthV.same {H H' : Hp} {x : V} (h : OthV H x) (s : Same H H') : OthV H' x := by
  rcases h with h | h | h | ⟨a, us, h, e⟩ | ⟨a, us, h, e⟩
  · exact .inl h
  · exact .inr (.inl h)
  · exact .inr (.inr (.inl h))
  · exact .inr (.inr (.inr (.inl ⟨a, us, h, s _ _ e⟩)))
  · exact .inr (.inr (.inr (.inr ⟨a, us, h, s _ _ e⟩)))
theorem OthV.kd {C : Addr} {H : Hp} {x : V} (h : OthV H x) (KN : KinE K C) : ∃ T, KdV K T x H ∧ TyOf K H x (.type T) ∧ PySem.W.notFirst K C (.type T) = true ∧ PySem.W.kitOne K (.type T) (.ref C) = some false := by
  rcases h with rfl | ⟨i, rfl⟩ | ⟨z, rfl⟩ | ⟨a, us, rfl, e⟩ | ⟨a, us, rfl, e⟩
  · exact ⟨"NoneType", rfl, .non, KN.k _ (by decide)⟩
  · exact ⟨"int", rfl, .int i, KN.k _ (by decide)⟩
  · exact ⟨"str", rfl, .str z, KN.k _ (by decide)⟩
  · exact ⟨"list", .inl ⟨rfl, us, SqL.of e⟩, .lst e, KN.k _ (by decide)⟩
  · exact ⟨"tuple", .inr ⟨rfl, us, .inl (.inl e)⟩, .tup e, KN.k _ (by decide)⟩
/-- lists and dicts -/
def LD (S : List Addr) (H : Hp) : Prop := ∀ x ∈ S, ∀ ob, H x = some ob → (∃ us, ob = .lst us) ∨ ∃ kv, ob = .dK kv
theorem sqT_ld {H H' : Hp} {S : List Addr} {a : Addr} {vs : List V} (h : SqT K H a vs) (s : Sm S H H') (nt : LD S H) : SqT K H' a vs := by
  rcases h with (h | ⟨o2, h⟩) | h
  · exact .inl (.inl (sm_at s (fun x => by rcases nt a x _ h with ⟨_, e⟩ | ⟨_, e⟩ <;> cases e) h))
  · exact .inl (.inr ⟨o2, sm_at s (fun x => by rcases nt a x _ h with ⟨_, e⟩ | ⟨_, e⟩ <;> cases e) h⟩)
  · exact .inr h
theorem prs_ld {H H' : Hp} {S : List Addr} {us : List V} {ts : List Pr} (h : DpAll K H us (ts.map prD)) (s : Sm S H H') (nt : LD S H) : DpAll K H' us (ts.map prD) :=
  dpAll_go (fun a vs h => sqT_ld h s nt) (noL_map (f := prD) noL_pr _) h
theorem prs_off {H : Hp} {S : List Addr} {us : List V} {ts : List Pr} (h : DpAll K H us (ts.map prD)) (nt : LD S H) : DpAll K (off H S) us (ts.map prD) := by
  refine dpAll_go (fun a vs h => ?_) (noL_map (f := prD) noL_pr _) h
  rcases h with (h | ⟨o2, h⟩) | h
  · exact .inl (.inl ((off_out fun x => by rcases nt a x _ h with ⟨_, e⟩ | ⟨_, e⟩ <;> cases e).trans h))
  · exact .inl (.inr ⟨o2, (off_out fun x => by rcases nt a x _ h with ⟨_, e⟩ | ⟨_, e⟩ <;> cases e).trans h⟩)
  · exact .inr h
theorem TtAt.ld {C : Addr} {H H' : Hp} {S : List Addr} {p : Addr} {ts : List Pr} {L : Int} (h : TtAt K C H p ts L) (s : Sm S H H') (nt : LD S H) : TtAt K C H' p ts L := by
  obtain ⟨dx, t, xs, h1, h2, h3⟩ := h
  exact ⟨dx, t, xs, sm_at s (fun x => by rcases nt p x _ h1 with ⟨_, e⟩ | ⟨_, e⟩ <;> cases e) h1, sqT_ld h2 s nt, prs_ld h3 s nt⟩
theorem st_ld {H : Hp} {d c : Addr} {n : Nat} (S : StAt H d c n) : LD [d, c] H := fun x hx ob e => by
  obtain ⟨_, xs, t, hd, hc, _⟩ := S
  simp only [List.mem_cons, List.not_mem_nil, or_false] at hx
  rcases hx with rfl | rfl
  · rw [hd] at e; exact .inr ⟨_, (Option.some.inj e).symm⟩
  · rw [hc] at e; exact .inl ⟨_, (Option.some.inj e).symm⟩
theorem st_sm {H H' : Hp} {T : List Addr} {d c : Addr} {n : Nat} (S : StAt H d c n) (s : Sm T H H') (h1 : d ∉ T) (h2 : c ∉ T) : StAt H' d c n := by
  obtain ⟨ndc, xs, t, hd, hc, r⟩ := S
  exact ⟨ndc, xs, t, sm_at s h1 hd, sm_at s h2 hc, r⟩
theorem ixN_zero {n : Nat} (h : 0 < n) : ixN n 0 = some 0 := by
  unfold ixN
  simp
  omega
theorem ins_new {C x dx : Addr} {H1 : Hp} (nx : H1 x = none) (ndx : H1 dx = none) : Same H1 (upd (upd H1 dx (.own x)) x (.ins C dx [])) := fun b o e => by
  rw [upd_ne (ne_of_none e nx), upd_ne (ne_of_none e ndx)]
  exact e
abbrev s_law : Stmt := topS 13
def n_law : List Str := ["_law_script", "_law_state", "_law_turn", "_law_length", "_law_times", "_law_handed", "_law_one", "_law_twin", "_law_pairs", "_law_more", "_law_other", "_law_alike", "_law_k", "_law_thing"]
theorem sc_law : FnScope n_law ["_law_script"] (defScope s_law) := ⟨rfl, rfl, rfl, by decide +kernel, rfl, by decide +kernel, by decide +kernel⟩
def spLaw (K : PySem.W.Frag) : Sp := fun vs H Q _ => ∃ (a : Addr) (ns : List Int), vs = [.ref a] ∧ SqL K H a (ns.map V.int) ∧ ns.length ≤ 63 ∧ ∀ H', Q (.bl true) H'
set_option maxHeartbeats 2000000 in
theorem ok_law {C f : Addr} {fd : FuncData} {k : Nat} (F : Fun K "law" "law" s_law f fd) (T : Txt mg) (O : TtC P w K mg base C) (KN : KinE K C) (c__law_begin : Cl P w K mg base 1 "_law_begin" (spBegin K)) (c__law_take : Cl P w K mg base 1 "_law_take" spTake) (c__law_number : Cl P w K mg base 2 "_law_number" spNumb) (c__law_unlike : Cl P w K mg base 2 "_law_unlike" (spUnl K)) (c__law_told : Cl P w K mg base 6 "_law_told" (spTld K C)) : FnOk P w K mg base CX0 (k + 7) f fd ["_law_script"] (spLaw K) := by
  refine F.ok sc_law (fun vs H Q E h => ?_) (fun cdv A outer s H vs Q E hr h => ?_)
  · obtain ⟨a, ns, rfl, _⟩ := h
    rfl
  · obtain ⟨a, ns, rfl, hS, h63, q⟩ := h
    have nd := sc_law.nd
    have hu64 := hr.units
    have mk_Timetable := O.made
    have eq_Timetable := O.eq
    have ne_Timetable := O.tk.ne
    have repr_Timetable := O.rp
    let CTimetable := C
    /- 0 _law_script, 1 _law_state, 2 _law_turn, 3 _law_length, 4 _law_times, 5 _law_handed, 6 _law_one, 7 _law_twin, 8 _law_pairs, 9 _law_more, 10 _law_other, 11 _law_alike, 12 _law_k, 13 _law_thing -/
    refine ⟨_, (pss_cons (ps_set (i := 1) nd rfl (.inr rfl) (pe_cl c__law_begin hr (by omega) (by rfl) (pa_cons (pv 0) pa_nil)))
      (pss_cons (ps_for PassesOwn.never rfl (pi_range1 (by rfl) T.range (pa_cons pe_int pa_nil)) (pg_name (i := 2) nd rfl (.inl rfl))
          (pss_cons (ps_set (i := 3) nd rfl (.inl rfl) (pe_callB call_abs (by rfl) T.abs (by decide +kernel) (pa_cons (pe_cl c__law_number hr (by omega) (by rfl) (pa_cons (pv 1) pa_nil)) pa_nil)))
          (pss_cons (ps_setLc (i := 4) (own := [("_law_k", 12)]) rfl nd rfl rfl (sw_true rfl rfl rfl (by decide +kernel)) (pi_range1 (by rfl) T.range (pa_cons (pe_op op_add pe_int (pe_cl c__law_take hr (by omega) (by rfl) (pa_cons (pv 1) (pa_cons pe_int pa_nil)))) pa_nil)) (blkOk_by (N := n_law) (sc := defScope s_law) (by decide +kernel)) (fun _ _ _ _ _ => (pg_name (i := 12) nd rfl (.inl rfl))) (fun _ _ _ _ _ => pts_nil) (fun _ _ _ _ _ => (pe_tup (pa_cons (pe_cl c__law_number hr (by omega) (by rfl) (pa_cons (pv 1) pa_nil)) (pa_cons (pe_cl c__law_number hr (by omega) (by rfl) (pa_cons (pv 1) pa_nil)) pa_nil)))))
          (pss_cons (ps_set (i := 5) nd rfl (.inl rfl) (pe_callTy (kc_list (K := K)) (by rfl) T.list (by decide +kernel) (pa_cons (pv 4) pa_nil)))
          (pss_cons (ps_asg (pe_tup (pa_cons (pe_omk mk_Timetable hr (by omega) (by rfl) (pa_cons (pv 5) (pa_cons (pv 3) pa_nil))) (pa_cons (pe_omk mk_Timetable hr (by omega) (by rfl) (pa_cons (pe_callTy (kc_list (K := K)) (by rfl) T.list (by decide +kernel) (pa_cons (pv 4) pa_nil)) (pa_cons (pv 3) pa_nil))) pa_nil))) (kg_tup (K := K) (n := 2) (pgs_cons (pg_name (i := 6) nd rfl (.inr rfl)) (pgs_cons (pg_name (i := 7) nd rfl (.inl rfl)) pgs_nil))))
          (pss_cons (ps_expr (pe_bm PySem.F.plainAttrs_list PySem.F.slot_list_append PySem.F.type_list_append mt_append (pv 5) (pa_cons (pe_tup (pa_cons pe_int (pa_cons pe_int pa_nil))) pa_nil)))
          (pss_cons (ps_if (pt_cmpR op_gt (pe_callB (kc_len (K := K)) (by rfl) T.len PySem.boot_len (pa_cons (pv 5) pa_nil)) pe_int (nomark _))
              (pss_one (ps_asg (pe_tup (pa_cons pe_int (pa_cons pe_int pa_nil))) (pg_sub (pv 5) pe_int set_list)))
              pss_nil)
          (pss_cons (ps_if ((pw_or (pt_not (pt_val (pe_cl c__law_told hr (by omega) (by rfl) (pa_cons (pv 6) (pa_cons (pv 4) (pa_cons (pv 3) pa_nil)))))) (pw_or1 (pt_not (pt_val (pe_cl c__law_told hr (by omega) (by rfl) (pa_cons (pv 7) (pa_cons (pv 4) (pa_cons (pv 3) pa_nil))))))))).pt
              (pss_one (ps_ret pe_bl))
              pss_nil)
          (pss_cons (ps_asg (pe_cl c__law_unlike hr (by omega) (by rfl) (pa_cons (pv 1) (pa_cons (pv 4) (pa_cons (pv 3) pa_nil)))) (kg_tup (K := K) (n := 2) (pgs_cons (pg_name (i := 8) nd rfl (.inl rfl)) (pgs_cons (pg_name (i := 9) nd rfl (.inl rfl)) pgs_nil))))
          (pss_cons (ps_par (i := 10) (j := 11) rfl nd rfl rfl (by decide) rfl rfl (pa_cons (pe_omk mk_Timetable hr (by omega) (by rfl) (pa_cons (pv 8) (pa_cons (pv 9) pa_nil))) (pa_cons (pe_and (pe_cmpR (ko_eq (K := K) hu64) (pv 8) (pv 4) (nomark _)) (pe_one (pe_cmpR op_eq (pv 9) (pv 3) (nomark _)))) pa_nil)) rfl)
          (pss_cons (ps_if (pt_cmpR (ko_ne (K := K) hu64) (pe_lst (pa_cons (pe_cmpR (ko_eqI eq_Timetable hr (by omega)) (pv 6) (pv 7) (nomark _)) (pa_cons (pe_cmpR (ko_eqI eq_Timetable hr (by omega)) (pv 6) (pv 10) (nomark _)) (pa_cons (pe_cmpR (ko_eqI eq_Timetable hr (by omega)) (pv 10) (pv 6) (nomark _)) (pa_cons (pe_cmpR (ko_neI eq_Timetable ne_Timetable hr (by omega) hu64) (pv 6) (pv 10) (nomark _)) pa_nil))))) (pe_lst (pa_cons pe_bl (pa_cons (pv 11) (pa_cons (pv 11) (pa_cons (pe_not (pv 11)) pa_nil))))) (nomark _))
              (pss_one (ps_ret pe_bl))
              pss_nil)
          (pss_cons (ps_if ((pw_or (pt_cmpR (ko_ne (K := K) hu64) (pe_lst (pa_cons (pe_cmpR (ko_inI eq_Timetable hr (by omega)) (pv 6) (pe_lst (pa_cons (pv 10) (pa_cons (pv 7) pa_nil))) rfl) (pa_cons (pe_cmpR (ko_inI eq_Timetable hr (by omega)) (pv 6) (pe_lst (pa_cons (pv 10) pa_nil)) rfl) pa_nil))) (pe_lst (pa_cons pe_bl (pa_cons (pv 11) pa_nil))) (nomark _)) (pw_or1 (pt_not (pt_val (pe_cl c__law_told hr (by omega) (by rfl) (pa_cons (pv 6) (pa_cons (pv 4) (pa_cons (pv 3) pa_nil))))))))).pt
              (pss_one (ps_ret pe_bl))
              pss_nil)
          (pss_one (ps_if (pt_val (pe_callB (kc_any (K := K)) (by rfl) T.any (by decide +kernel) (pa_cons (pe_lc (own := [("_law_thing", 13)]) rfl nd (ki_tup (K := K) (pe_tup (pa_cons pe_non (pa_cons pe_int (pa_cons (pv 4) (pa_cons (pe_tup (pa_cons (pv 4) (pa_cons (pv 3) pa_nil))) (pa_cons (pe_callB (kc_reprI repr_Timetable hr (by omega)) (by rfl) T.repr (by decide +kernel) (pa_cons (pv 6) pa_nil)) (pa_cons pe_str pa_nil)))))))) (blkOk_by (N := n_law) (sc := defScope s_law) (by decide +kernel)) (fun _ _ _ _ _ => (pg_name (i := 13) nd rfl (.inl rfl))) (fun _ _ _ _ _ => pts_nil) (fun _ _ _ _ _ => (pe_cmpR (ko_eqBK (K := K) eq_Timetable hr (by omega)) (pv 6) (pv 13) (nomark _)))) pa_nil)))
              (pss_one (ps_ret pe_bl))
              pss_nil))))))))))))))
      (pss_one (ps_ret pe_bl)))), ?_⟩
    refine ⟨_, rfl, a, ns, rfl, hS, h63, fun H1 d c s1 S1 nd1 nc1 => ?_⟩
    simp only [gName, List.set]
    clear hS
    refine ⟨_, rfl, by decide, by decide, ?_⟩
    refine for_it walk_range (fun i σ Hx => ∃ v2 v3 v4 v5 v6 v7 v8 v9 va vb, σ = [some (.ref a), some (.ref d), v2, v3, v4, v5, v6, v7, v8, v9, va, vb, none, none] ∧ StAt Hx d c (300 * i)) ⟨_, _, _, _, _, _, _, _, _, _, rfl, S1⟩ (fun _ _ _ _ _ => trivial) ?_ (fun σ Hx h => by
      obtain ⟨_, _, _, _, _, _, _, _, _, _, rfl, _⟩ := h
      exact q _)
    clear S1 s1 nd1 nc1
    rintro i y σ H1 _ hi ⟨v2, v3, v4, v5, v6, v7, v8, v9, va, vb, rfl, S1⟩ ⟨rfl, rfl⟩
    have hi : i < 4 := by omega
    show gName 2 (V.int (0 + (i : Nat))) _ _ _
    simp only [gName, List.set]
    refine ⟨_, rfl, d, c, _, rfl, S1, by omega, fun H2 r okr S2 s2 => ⟨r, rfl, ?_⟩⟩
    obtain ⟨L, eL, L0, L1⟩ : ∃ L : Int, L = (if r < 0 then -r else r) ∧ 0 ≤ L ∧ L ≤ 1000000000000 := ⟨_, rfl, by split <;> omega, by obtain ⟨a, b⟩ := okr; split <;> omega⟩
    rw [← eL]
    simp only [gName, List.set]
    clear S1 s2
    refine ⟨_, rfl, d, c, 12, _, rfl, by decide, by decide, S2, by omega, fun H3 t t0 t1 S3 s3 => ⟨_, _, rfl, rfl, ?_⟩⟩
    refine ⟨_, rfl, by show -2 ^ 62 ≤ 1 + t; omega, by show 1 + t < 2 ^ 62; omega, fun D nD => ?_⟩
    have Dd := S3.nd nD
    have Dc := S3.nc nD
    refine lc_it walk_range (fun j Hx => StAt Hx d c (300 * i + 5 + 10 * j) ∧ ∃ us ts, Hx D = some (.lst us) ∧ us.length = j ∧ DpAll K Hx us (ts.map prD) ∧ ∀ p ∈ ts, NmP p) ⟨S3.same (same_upd nD), [], [], upd_same, rfl, .nil, fun _ h => (List.not_mem_nil h).elim⟩ (fun _ _ _ _ => trivial) ?_ ?_
    · rintro j y H4 _ hj ⟨S4, us, ts, hD, lu, du, ok⟩ ⟨rfl, rfl⟩
      have hj : j < 13 := by have : (1 + t).toNat ≤ 12 := by omega
                             omega
      refine ⟨rfl, tYes_at ?_⟩
      rw [if_pos rfl]
      refine ⟨_, rfl, d, c, _, rfl, S4, by omega, fun H6 x okx S6 s6 => ⟨_, rfl, d, c, _, rfl, S6, by omega, fun H7 z okz S7 s7 => ⟨(by show 2 ≤ sizeLine; decide), fun u nu => ?_⟩⟩⟩
      have s67 := s6.trans s7
      have hD7 := sm2_at s67 Dd Dc hD
      have d7 := prs_ld du s67 (st_ld S4)
      have su := same_upd (o := .tup [V.int x, .int z]) nu
      have hu : upd H7 u (.tup [V.int x, .int z]) u = some (.tup [V.int x, .int z]) := upd_same
      have S8 := S7.same su
      have hD8 := su _ _ hD7
      have d8 := dpAll_same su d7
      generalize upd H7 u (.tup [V.int x, .int z]) = H8 at hu S8 hD8 d8 ⊢
      refine ⟨us, hD8, by rw [lu, sizeLine_eq]; omega, (S8.put Dd.symm Dc.symm).mono (by omega), us ++ [.ref u], ts ++ [(x, z)], upd_same, by rw [List.length_append, lu]; rfl, ?_, fun p hp => ?_⟩
      · rw [List.map_append]
        have uD : u ≠ D := fun e => by rw [e, hD8] at hu; cases hu
        refine dpAll_app' (prs_ld d8 (S := [D]) (sm_wr (by simp)) fun y hy ob e => ?_) (.cons (.tup (.inl (.inl ((upd_ne uD).trans hu))) (.cons (.int _) (.cons (.int _) .nil))) .nil)
        rw [List.mem_singleton.mp hy, hD8] at e
        exact .inl ⟨_, (Option.some.inj e).symm⟩
      · rcases List.mem_append.mp hp with h | h
        · exact ok p h
        · rw [List.mem_singleton.mp h]; exact ⟨okx, okz⟩
    clear S3 S2 s3 nD
    rintro H3 ⟨S3, us, ts, hD, lu, du, ok⟩
    simp only [gName, List.set]
    have lts : us.length = ts.length := dpAll_map_len du
    have ln : 1 ≤ ts.length ∧ ts.length ≤ 12 := by omega
    have tne : ts ≠ [] := fun e => by rw [e] at ln; simp at ln
    have S3 : StAt H3 d c (300 * i + 150) := S3.mono (by omega)
    have pok : ∀ p ∈ ts, PrOk p := fun p hp => (ok p hp).q.ok
    refine ⟨_, rfl, D, us, rfl, .inl (SqL.of hD), fun hl nhl => ?_⟩
    have s4 := same_upd (o := .lst us) nhl
    have hH : upd H3 hl (.lst us) hl = some (.lst us) := upd_same
    have hD4 := s4 _ _ hD
    have d4 := dpAll_same s4 du
    have S4 := S3.same s4
    have Dhl : D ≠ hl := ne_of_none hD nhl
    have hld := S3.nd nhl
    have hlc := S3.nc nhl
    generalize upd H3 hl (.lst us) = H4 at s4 hH hD4 d4 S4 ⊢
    clear S3 hD du nhl
    simp only [gName, List.set]
    refine ⟨_, rfl, _, rfl, ?_⟩
    intro p1 x1 np1 nx1 ne1
    refine ⟨H4, p1, x1, hl, us, ts, L, rfl, ins_new np1 nx1, np1, upd_same, SqL.of (ins_new np1 nx1 _ _ hH), dpAll_same (ins_new np1 nx1) d4, by omega, fun H5 s5 M1 => ⟨rfl, ?_⟩⟩
    refine ⟨_, rfl, D, us, rfl, .inl (SqL.of (s5 _ _ hD4)), fun l2 nl2 => ?_⟩
    have s6 := s5.trans (same_upd (o := .lst us) nl2)
    have hl2 : upd H5 l2 (.lst us) l2 = some (.lst us) := upd_same
    have M1 := M1.same (same_upd (o := .lst us) nl2)
    generalize upd H5 l2 (.lst us) = H6 at s6 hl2 M1 ⊢
    have lp1 : ∃ dx fs, H6 p1 = some (.ins C dx fs) := by
      obtain ⟨dx, _, _, h1, _⟩ := M1
      exact ⟨_, _, h1⟩
    refine ⟨_, rfl, ?_⟩
    intro p2 x2 np2 nx2 ne2
    refine ⟨H6, p2, x2, l2, us, ts, L, rfl, ins_new np2 nx2, np2, upd_same, SqL.of (ins_new np2 nx2 _ _ hl2), dpAll_same (s6.trans (ins_new np2 nx2)) d4, by omega, fun H7 s7 M2 => ⟨rfl, (by show 2 ≤ sizeLine; decide), fun tp ntp => ?_⟩⟩
    have s8 := (s6.trans s7).trans (same_upd (o := .tup [V.ref p1, .ref p2]) ntp)
    have htp : upd H7 tp (.tup [V.ref p1, .ref p2]) tp = some (.tup [V.ref p1, .ref p2]) := upd_same
    have M1 := (M1.same s7).same (same_upd (o := .tup [V.ref p1, .ref p2]) ntp)
    have M2 := M2.same (same_upd (o := .tup [V.ref p1, .ref p2]) ntp)
    have p12 : p1 ≠ p2 := by
      obtain ⟨dx, fs, h1⟩ := lp1
      exact ne_of_none h1 np2
    generalize upd H7 tp (.tup [V.ref p1, .ref p2]) = H8 at s8 htp M1 M2 ⊢
    refine ⟨tp, _, rfl, .inl (.inl htp), rfl, _, _, rfl, _, _, rfl, rfl, ?_⟩
    simp only [gName, List.set]
    have hH8 := s8 _ _ hH
    have S8 := S4.same s8
    have hD8 := s8 _ _ hD4
    have d8 := dpAll_same s8 d4
    clear s8 htp S4 d4
    refine seq_mid (fun σ Hx => σ = [some (.ref a), some (.ref d), some (.int (0 + (i : Nat))), some (.int L), some (.ref D), some (.ref hl), some (.ref p1), some (.ref p2), v8, v9, va, vb, none, none] ∧ Sm [hl] H8 Hx ∧ ∃ hs, Hx hl = some (.lst hs)) (fun N hN => ?_) (fun σ Hx h => ?_)
    · refine ⟨_, rfl, .inl ⟨rfl, _, SqL.of hH8⟩, (by show 2 ≤ sizeLine; decide), fun b1 nb1 => ⟨hl, us, _, rfl, rfl, same_upd nb1 _ _ hH8, by rw [sizeLine_eq]; omega, ?_⟩⟩
      exact hN _ _ ⟨rfl, (sm_of (same_upd nb1)).trans (sm_wr (by simp)), _, upd_same⟩
    obtain ⟨rfl, g9, hs9, hH9⟩ := h
    refine seq_mid (fun σ Hz => σ = [some (.ref a), some (.ref d), some (.int (0 + (i : Nat))), some (.int L), some (.ref D), some (.ref hl), some (.ref p1), some (.ref p2), v8, v9, va, vb, none, none] ∧ Sm [hl] H8 Hz) (fun N hN => ?_) (fun σ Hz h => ?_)
    · refine ⟨_, rfl, _, _, rfl, .inl ⟨_, SqL.of hH9, rfl⟩, _, _, rfl, rfl, _, rfl, ite2 (fun h => ?_) (fun _ => hN _ _ ⟨rfl, g9⟩)⟩
      have h0 : 0 < hs9.length := by have := of_decide_eq_true h; omega
      refine ⟨(by show 2 ≤ sizeLine; decide), fun b1 nb1 => ⟨_, rfl, hl, hs9, 0, 0, rfl, rfl, same_upd nb1 _ _ hH9, ?_, hN _ _ ⟨rfl, (g9.trans (sm_of (same_upd nb1))).trans (sm_wr (by simp))⟩⟩⟩
      exact ixN_zero h0
    obtain ⟨rfl, g10⟩ := h
    have ldh : LD [hl] H8 := fun x hx ob e => by
      rw [List.mem_singleton.mp hx, hH8] at e
      exact .inl ⟨_, (Option.some.inj e).symm⟩
    have S10 := st_sm S8 g10 (by simp [hld.symm]) (by simp [hlc.symm])
    have M1 := M1.ld g10 ldh
    have M2 := M2.ld g10 ldh
    have hD10 := sm1_at g10 Dhl hD8
    have d10 := prs_ld d8 g10 ldh
    clear S8 hD8 d8 ldh g10 g9 hH9 hH8
    have told : ∀ {p : Addr} {H' : Hp} {n : Nat}, True := fun {_ _ _} => trivial
    refine ⟨_, rfl, _, rfl, _, rfl, p1, D, us, ts, L, rfl, M1, SqL.of hD10, d10, tne, by omega, pok, L0, by omega, fun H11 s11 => ⟨true, rfl, iteF ?_⟩⟩
    refine ⟨_, rfl, _, rfl, _, rfl, p2, D, us, ts, L, rfl, M2.same s11, SqL.of (s11 _ _ hD10), dpAll_same s11 d10, tne, by omega, pok, L0, by omega, fun H12 s12 => ⟨true, rfl, iteF ?_⟩⟩
    have s12 := s11.trans s12
    have S12 := S10.same s12
    have M1 := M1.same s12
    have M2 := M2.same s12
    have hD12 := s12 _ _ hD10
    have d12 := dpAll_same s12 d10
    clear S10 hD10 d10 s11 s12
    refine ⟨_, rfl, _, rfl, _, rfl, d, c, D, _, us, ts, L, rfl, S12, by omega, (off_out (by simp [Dd, Dc])).trans hD12, prs_off d12 (st_ld S12), tne, by omega, fun H13 t2 R us2 ss M s13 S13 ht2 nR hR dR lR => ?_⟩
    refine ⟨t2, _, rfl, .inl (.inl ht2), rfl, _, _, rfl, _, _, rfl, rfl, ?_⟩
    have M1 := M1.ld s13 (st_ld S12)
    have M2 := M2.ld s13 (st_ld S12)
    have hD13 := sm2_at s13 Dd Dc hD12
    have d13 := prs_ld d12 s13 (st_ld S12)
    simp only [gName, List.set]
    clear S12 hD12 d12 s13 ht2 nR
    have lr : us2.length = ss.length := dpAll_map_len dR
    refine seq_mid (fun σ Hx => ∃ p3, σ = [some (.ref a), some (.ref d), some (.int (0 + (i : Nat))), some (.int L), some (.ref D), some (.ref hl), some (.ref p1), some (.ref p2), some (.ref R), some (.int M), some (.ref p3), some (.bl (decide (ss = ts) && decide (M = L))), none, none] ∧ Same H13 Hx ∧ H13 p3 = none ∧ TtAt K C Hx p3 ss M) (fun N hN => ?_) (fun σ Hx h => ?_)
    · refine ⟨_, rfl, _, rfl, ?_⟩
      intro p3 x3 np3 nx3 ne3
      refine ⟨H13, p3, x3, R, us2, ss, M, rfl, ins_new np3 nx3, np3, upd_same, SqL.of (ins_new np3 nx3 _ _ hR), dpAll_same (ins_new np3 nx3) dR, by omega, fun H14 s14 M3 => ⟨rfl, ?_⟩⟩
      have e1 : PyData.eqv (.list (ss.map prD)) (.list (ts.map prD)) = decide (ss = ts) := prs_eqv ss ts
      refine ⟨_, rfl, _, rfl, _, _, .lst (SqL.of (s14 _ _ hR)) (dpAll_same s14 dR), .lst (SqL.of (s14 _ _ hD13)) (dpAll_same s14 d13), prL_shaped ss, prL_shaped ts, _, rfl, ?_⟩
      rw [e1]
      by_cases h : ss = ts
      · rw [decide_eq_true h]
        refine iteT ⟨_, rfl, _, rfl, rfl, _, _, rfl, hN _ _ ⟨p3, ?_, s14, np3, M3⟩⟩
        rw [decide_eq_true h]
        have : decide (V.int M = V.int L) = decide (M = L) := by simp
        rw [this]
        rfl
      · rw [decide_eq_false h]
        refine iteF ⟨_, _, rfl, hN _ _ ⟨p3, ?_, s14, np3, M3⟩⟩
        rw [decide_eq_false h]
        rfl
    obtain ⟨p3, rfl, s14, np3, M3⟩ := h
    have M1 := M1.same s14
    have M2 := M2.same s14
    have S14 := S13.same s14
    have hD14 := s14 _ _ hD13
    have d14 := dpAll_same s14 d13
    obtain ⟨dx1, t1, xs1, h1, g1⟩ := id M1
    have p13 : p1 ≠ p3 := by
      obtain ⟨dx, _, _, e, _⟩ := ‹TtAt K C H13 p1 ts L›
      exact ne_of_none e np3
    have p23 : p2 ≠ p3 := by
      obtain ⟨dx, _, _, e, _⟩ := ‹TtAt K C H13 p2 ts L›
      exact ne_of_none e np3
    obtain ⟨dx2, t2, xs2, h2, g2⟩ := id M2
    obtain ⟨dx3, t3, xs3, h3, g3⟩ := id M3
    have nF : PySem.W.notFirst K C (.ref C) = true := by simp [PySem.W.notFirst]
    obtain ⟨al, eal⟩ : ∃ al, al = (decide (ss = ts) && decide (M = L)) := ⟨_, rfl⟩
    have ea : (decide (ts = ss) && decide (L = M)) = al := by
      rw [eal, Bool.eq_iff_iff]
      simp only [Bool.and_eq_true, decide_eq_true_eq]
      exact ⟨fun h => ⟨h.1.symm, h.2.symm⟩, fun h => ⟨h.1.symm, h.2.symm⟩⟩
    have et : (decide (ts = ts) && decide (L = L)) = true := by simp
    rw [← eal]
    clear S13 hD13 d13 s14 np3
    refine ⟨_, rfl, _, rfl, p1, dx1, _, p2, C, dx2, _, rfl, rfl, h1, h2, nF, p1, ts, L, .ref p2, rfl, M1, by omega, .inl ⟨p2, ts, L, rfl, M2, by omega, ⟨_, rfl, ?_⟩⟩⟩
    refine ⟨_, rfl, _, rfl, p1, dx1, _, p3, C, dx3, _, rfl, rfl, h1, h3, nF, p1, ts, L, .ref p3, rfl, M1, by omega, .inl ⟨p3, ss, M, rfl, M3, by omega, ⟨_, rfl, ?_⟩⟩⟩
    refine ⟨_, rfl, _, rfl, p3, dx3, _, p1, C, dx1, _, rfl, rfl, h3, h1, nF, p3, ss, M, .ref p1, rfl, M3, by omega, .inl ⟨p1, ts, L, rfl, M1, by omega, ⟨_, rfl, ?_⟩⟩⟩
    refine ⟨_, rfl, _, rfl, p1, dx1, _, p3, C, dx3, _, rfl, rfl, h1, h3, nF, p1, ts, L, .ref p3, rfl, M1, by omega, .inl ⟨p3, ss, M, rfl, M3, by omega, ⟨_, rfl, _, rfl, ?_⟩⟩⟩
    rw [et, ea, ← eal]
    refine ⟨(by show 4 ≤ sizeLine; decide), fun l4 nl4 => ?_⟩
    have s15 := same_upd (o := .lst [V.bl true, .bl al, .bl al, .bl (!al)]) nl4
    have hl4 : upd Hx l4 (.lst [V.bl true, .bl al, .bl al, .bl (!al)]) l4 = some (.lst [V.bl true, .bl al, .bl al, .bl (!al)]) := upd_same
    generalize upd Hx l4 (.lst [V.bl true, .bl al, .bl al, .bl (!al)]) = H15 at s15 hl4 ⊢
    refine ⟨_, rfl, _, rfl, _, rfl, _, rfl, (by show 4 ≤ sizeLine; decide), fun l5 nl5 => ?_⟩
    have s16 := same_upd (o := .lst [V.bl true, .bl al, .bl al, .bl (!al)]) nl5
    have hl5 : upd H15 l5 (.lst [V.bl true, .bl al, .bl al, .bl (!al)]) l5 = some (.lst [V.bl true, .bl al, .bl al, .bl (!al)]) := upd_same
    have hl4 := s16 _ _ hl4
    have s16 := s15.trans s16
    generalize upd H15 l5 (.lst [V.bl true, .bl al, .bl al, .bl (!al)]) = H16 at s16 hl4 hl5 ⊢
    have bD : ∀ b : Addr, H16 b = some (.lst [V.bl true, .bl al, .bl al, .bl (!al)]) → Dp K H16 (.ref b) (.list [.bool true, .bool al, .bool al, .bool (!al)]) := fun b h => .lst (SqL.of h) (.cons (.bl _) (.cons (.bl _) (.cons (.bl _) (.cons (.bl _) .nil))))
    have sh : SeqAt.shaped (.list [.bool true, .bool al, .bool al, .bool (!al)]) = true := by cases al <;> rfl
    have ev : (!PyData.eqv (.list [.bool true, .bool al, .bool al, .bool (!al)]) (.list [.bool true, .bool al, .bool al, .bool (!al)])) = false := by cases al <;> rfl
    refine ⟨_, _, bD l4 hl4, bD l5 hl5, sh, sh, ?_⟩
    rw [ev]
    refine ⟨_, rfl, iteF ?_⟩
    clear bD hl4 hl5 s15 nl4 nl5
    have M1 := M1.same s16
    have M2 := M2.same s16
    have M3 := M3.same s16
    have h1 := s16 _ _ h1
    have h2 := s16 _ _ h2
    have h3 := s16 _ _ h3
    have S16 := S14.same s16
    have hD16 := s16 _ _ hD14
    have d16 := dpAll_same s16 d14
    clear S14 hD14 d14 s16
    -- whether it's in a list
    have ev1 : ∀ (H' : Hp), Same H16 H' → ∀ b ∈ [p3, p2], b ≠ p1 ∧ (∃ dy gs, H' b = some (.ins C dy gs)) ∧ ∀ Q2 : VK, Q2 (.bl (if b = p3 then al else true)) H' → spTQ K C [.ref b, .ref p1] H' Q2 E0 := fun H' s b hb => by
      simp only [List.mem_cons, List.not_mem_nil, or_false] at hb
      rcases hb with rfl | rfl
      · refine ⟨p13.symm, ⟨_, _, s _ _ h3⟩, fun Q2 q2 => ⟨b, ss, M, .ref p1, rfl, M3.same s, by omega, .inl ⟨p1, ts, L, rfl, M1.same s, by omega, ?_⟩⟩⟩
        rw [if_pos rfl, eal] at q2
        exact q2
      · refine ⟨p12.symm, ⟨_, _, s _ _ h2⟩, fun Q2 q2 => ⟨b, ts, L, .ref p1, rfl, M2.same s, by omega, .inl ⟨p1, ts, L, rfl, M1.same s, by omega, ?_⟩⟩⟩
        rw [if_neg p23] at q2
        rw [et]
        exact q2
    refine ⟨_, rfl, _, rfl, _, rfl, (by show 2 ≤ sizeLine; decide), fun l6 nl6 => ?_⟩
    have s17 := same_upd (o := .lst [V.ref p3, .ref p2]) nl6
    refine ⟨p1, dx1, _, l6, [p3, p2], _, rfl, rfl, s17 _ _ h1, upd_same, nF, ev1 _ s17, ?_⟩
    have a1 : [p3, p2].any (fun b => if b = p3 then al else true) = true := by
      show ((if p3 = p3 then al else true) || ((if p2 = p3 then al else true) || false)) = true
      rw [if_pos rfl, if_neg p23]
      cases al <;> rfl
    rw [a1]
    generalize upd H16 l6 (.lst [V.ref p3, .ref p2]) = H17 at s17 ⊢
    refine ⟨_, rfl, _, rfl, (by show 1 ≤ sizeLine; decide), fun l7 nl7 => ?_⟩
    have s18 := s17.trans (same_upd (o := .lst [V.ref p3]) nl7)
    refine ⟨p1, dx1, _, l7, [p3], _, rfl, rfl, s18 _ _ h1, upd_same, nF, fun b hb => ev1 _ s18 b (List.mem_cons.mpr (.inl (List.mem_singleton.mp hb))), ?_⟩
    have a2 : [p3].any (fun b => if b = p3 then al else true) = al := by
      show ((if p3 = p3 then al else true) || false) = al
      rw [if_pos rfl]
      cases al <;> rfl
    rw [a2]
    generalize upd H17 l7 (.lst [V.ref p3]) = H18 at s18 ⊢
    refine ⟨(by show 2 ≤ sizeLine; decide), fun l8 nl8 => ?_⟩
    have s19 := same_upd (o := .lst [V.bl true, .bl al]) nl8
    have hl8 : upd H18 l8 (.lst [V.bl true, .bl al]) l8 = some (.lst [V.bl true, .bl al]) := upd_same
    generalize upd H18 l8 (.lst [V.bl true, .bl al]) = H19 at s19 hl8 ⊢
    refine ⟨_, rfl, (by show 2 ≤ sizeLine; decide), fun l9 nl9 => ?_⟩
    have s20 := same_upd (o := .lst [V.bl true, .bl al]) nl9
    have hl9 : upd H19 l9 (.lst [V.bl true, .bl al]) l9 = some (.lst [V.bl true, .bl al]) := upd_same
    have hl8 := s20 _ _ hl8
    have s20 := (s18.trans s19).trans s20
    generalize upd H19 l9 (.lst [V.bl true, .bl al]) = H20 at s20 hl8 hl9 ⊢
    have bD : ∀ b : Addr, H20 b = some (.lst [V.bl true, .bl al]) → Dp K H20 (.ref b) (.list [.bool true, .bool al]) := fun b h => .lst (SqL.of h) (.cons (.bl _) (.cons (.bl _) .nil))
    have sh : SeqAt.shaped (.list [.bool true, .bool al]) = true := by cases al <;> rfl
    have ev : (!PyData.eqv (.list [.bool true, .bool al]) (.list [.bool true, .bool al])) = false := by cases al <;> rfl
    refine ⟨_, _, bD l8 hl8, bD l9 hl9, sh, sh, ?_⟩
    rw [ev]
    refine ⟨_, rfl, iteF ?_⟩
    refine ⟨_, rfl, _, rfl, _, rfl, p1, D, us, ts, L, rfl, M1.same s20, SqL.of (s20 _ _ hD16), dpAll_same s20 d16, tne, by omega, pok, L0, by omega, fun H21 s21 => ⟨true, rfl, iteF ?_⟩⟩
    have s21 := s20.trans s21
    have M1 := M1.same s21
    have h1 := s21 _ _ h1
    have S21 := S16.same s21
    have hD21 := s21 _ _ hD16
    clear S16 hD16 s18 s17 hl8 hl9 bD ev1
    have d21 := dpAll_same s21 ‹DpAll K H16 us (ts.map prD)›
    have okL : FigOk L := by
      unfold FigOk
      have e : (2000000000000 : Nat) < 10 ^ 60 := by decide
      omega
    dsimp only [tNext]
    refine ⟨_, rfl, _, rfl, _, rfl, (by show 2 ≤ sizeLine; decide), fun tq ntq => ?_⟩
    have s22 := same_upd (o := .tup [V.ref D, .int L]) ntq
    have htq : upd H21 tq (.tup [V.ref D, .int L]) tq = some (.tup [V.ref D, .int L]) := upd_same
    generalize upd H21 tq (.tup [V.ref D, .int L]) = H22 at s22 htq ⊢
    refine ⟨_, rfl, p1, dx1, _, rfl, s22 _ _ h1, p1, ts, L, rfl, M1.same s22, by omega, pok, okL, fun H23 s23 => ⟨_, rfl, ?_⟩⟩
    obtain ⟨vs, evs⟩ : ∃ vs, vs = [V.non, .int 0, .ref D, .ref tq, .str (reprT ts L), .str ""] := ⟨_, rfl⟩
    have s23 := s22.trans s23
    have htq := ‹Same H22 H23› _ _ htq
    have oth : ∀ x ∈ vs, OthV H23 x := fun x hx => by
      rw [evs] at hx
      simp only [List.mem_cons, List.not_mem_nil, or_false] at hx
      rcases hx with rfl | rfl | rfl | rfl | rfl | rfl
      · exact .inl rfl
      · exact .inr (.inl ⟨_, rfl⟩)
      · exact .inr (.inr (.inr (.inl ⟨_, _, rfl, s23 _ _ hD21⟩)))
      · exact .inr (.inr (.inr (.inr ⟨_, _, rfl, htq⟩)))
      · exact .inr (.inr (.inl ⟨_, rfl⟩))
      · exact .inr (.inr (.inl ⟨_, rfl⟩))
    refine ⟨(by show 6 ≤ sizeLine; decide), fun tt ntt => ?_⟩
    rw [show [V.non, .int 0, .ref D, .ref tq, .str (reprT ts L), .str ""] = vs from evs.symm]
    have s24 := s23.trans (same_upd (o := .tup vs) ntt)
    have htt : upd H23 tt (.tup vs) tt = some (.tup vs) := upd_same
    have oth : ∀ x ∈ vs, OthV (upd H23 tt (.tup vs)) x := fun x hx => (oth x hx).same (same_upd ntt)
    generalize upd H23 tt (.tup vs) = H24 at s24 htt oth ⊢
    refine ⟨tt, rfl, ⟨_, .inl (.inl htt)⟩, fun G nG => ?_⟩
    refine lc_it (walk_tup (xs := vs)) (fun j Hz => Same H24 Hz ∧ Hz G = some (.lst ((List.replicate j false).map V.bl))) ⟨same_upd nG, upd_same⟩ (fun j Hz _ h => (.inl (.inl (h.1 _ _ htt)) : SqT K Hz tt _)) ?_ ?_
    · rintro j y _ Hz hj ⟨sz, hG⟩ ⟨rfl, gy⟩
      have l6 : vs.length = 6 := by rw [evs]; rfl
      obtain ⟨T', kd, ty, nf, kt⟩ := ((oth y (List.mem_of_getElem? gy)).same sz).kd KN
      refine ⟨rfl, tYes_at ?_⟩
      rw [if_pos rfl]
      have sa := s24.trans sz
      refine ⟨_, rfl, _, rfl, p1, dx1, _, T', rfl, sa _ _ h1, kd, nf, p1, ts, L, y, rfl, M1.same sa, by omega, .inr ⟨.type T', ty, kt, false, rfl, ?_⟩⟩
      refine ⟨_, hG, by rw [List.length_map, List.length_replicate, sizeLine_eq]; omega, same_put sz nG, ?_⟩
      rw [List.replicate_succ', List.map_append]
      exact upd_same
    rintro H25 ⟨s25, hG⟩
    refine ⟨G, _, rfl, SqL.of hG, ?_⟩
    have e : ∀ n : Nat, (List.replicate n false).any id = false := fun n => by
      cases h : (List.replicate n false).any id with
      | false => rfl
      | true =>
        obtain ⟨x, hx, hi⟩ := List.any_eq_true.mp h
        rw [(List.mem_replicate.mp hx).2] at hi
        cases hi
    rw [e]
    refine ⟨_, rfl, iteF ?_⟩
    exact ⟨_, _, _, _, _, _, _, _, _, _, rfl, (S21.same (s24.trans s25)).mono (by omega)⟩

end
end Pot

namespace Pot
open PySem PySem.Spec PyProof.Rows L2
theorem nf_of {K : PySem.W.Frag} {C : Addr} {t : Value} (h : PySem.W.subIn K t (.ref C) = some false) : PySem.W.notFirst K C t = true := by
  unfold PySem.W.notFirst
  rw [h]
  simp
theorem kit_subc {K : PySem.W.Frag} {t : Value} {C : Addr} {b : Bool} (ne : (t == Value.ref C) = false) (hd : PySem.W.hasDictIn K C = true) (ht : PySem.W.typeIn K (.ref C) = some (.type "type")) (hs : PySem.W.subIn K t (.ref C) = some b) : PySem.W.kitOne K t (.ref C) = some b := by
  obtain ⟨cd, hc, _⟩ := PySem.W.any_some hd
  have e2 : ((PySem.W.clsIn K C).isSome && PySem.W.typeIn K (.ref C) == some (.type "type")) = true := by rw [hc, ht] <;> rfl
  show (if (t == Value.ref C) = true then some true else (if ((PySem.W.clsIn K C).isSome && PySem.W.typeIn K (.ref C) == some (.type "type")) = true then PySem.W.subIn K t (.ref C) else none)) = some b
  rw [if_neg (by rw [ne]; exact Bool.false_ne_true), if_pos e2]
  exact hs
set_option maxHeartbeats 4000000 in
theorem all_mk {l : PySem.W.OpenLaw} {w : World} {K : PySem.W.Frag} {h : Heap} {mg : Str → Option Value} {fa : Addr} (X : K.In h) (G : h.Ns mainGlobals mg) (hfa : mg "law" = some (.ref fa))
    {f1 : Addr} {od1 an1 : Option Addr} {sl1 : Array (Option Value)} {oc1 kV1 dc1 pm1 cd1 ct1 : Value}
    {f2 : Addr} {od2 an2 : Option Addr} {sl2 : Array (Option Value)} {oc2 kV2 dc2 pm2 cd2 ct2 : Value}
    {f3 : Addr} {od3 an3 : Option Addr} {sl3 : Array (Option Value)} {oc3 kV3 dc3 pm3 cd3 ct3 : Value}
    {f4 : Addr} {od4 an4 : Option Addr} {sl4 : Array (Option Value)} {oc4 kV4 dc4 pm4 cd4 ct4 : Value}
    {f5 : Addr} {od5 an5 : Option Addr} {sl5 : Array (Option Value)} {oc5 kV5 dc5 pm5 cd5 ct5 : Value}
    {f6 : Addr} {od6 an6 : Option Addr} {sl6 : Array (Option Value)} {oc6 kV6 dc6 pm6 cd6 ct6 : Value}
    {f7 : Addr} {od7 an7 : Option Addr} {sl7 : Array (Option Value)} {oc7 kV7 dc7 pm7 cd7 ct7 : Value}
    {f8 : Addr} {od8 an8 : Option Addr} {sl8 : Array (Option Value)} {oc8 kV8 dc8 pm8 cd8 ct8 : Value}
    {f9 : Addr} {od9 an9 : Option Addr} {sl9 : Array (Option Value)} {oc9 kV9 dc9 pm9 cd9 ct9 : Value}
    {f10 : Addr} {od10 an10 : Option Addr} {sl10 : Array (Option Value)} {oc10 kV10 dc10 pm10 cd10 ct10 : Value}
    {f11 : Addr} {od11 an11 : Option Addr} {sl11 : Array (Option Value)} {oc11 kV11 dc11 pm11 cd11 ct11 : Value}
    {CTt : Addr}
    {fti : Addr} {odti anti : Option Addr} {slti : Array (Option Value)} {octi kVti dcti pmti cdti ctti : Value}
    {ftp : Addr} {odtp antp : Option Addr} {sltp : Array (Option Value)} {octp kVtp dctp pmtp cdtp cttp : Value} {Ttp : Addr} {ocTtp : Value} {odTtp : Option Addr} {slTtp : Array (Option Value)} {nTtp : Nat} {tktp_0 : Tok}
    {ftn : Addr} {odtn antn : Option Addr} {sltn : Array (Option Value)} {octn kVtn dctn pmtn cdtn cttn : Value}
    {fte : Addr} {odte ante : Option Addr} {slte : Array (Option Value)} {octe kVte dcte pmte cdte ctte : Value}
    {ftr : Addr} {odtr antr : Option Addr} {sltr : Array (Option Value)} {octr kVtr dctr pmtr cdtr cttr : Value}
    {ftz : Addr} {odtz antz : Option Addr} {sltz : Array (Option Value)} {octz kVtz dctz pmtz cdtz cttz : Value}
    (a1 : PySem.W.nsIn K mainGlobals "listed" = some (some (.ref f1))) (l1 : K.lookup f1 = some ⟨oc1, od1, .func (PySem.W.fnOf "listed" "listed" (defArgs s_listed) (defBody s_listed) (defScope s_listed) .none kV1 dc1 pm1 an1 cd1 ct1), sl1⟩) (c1 : PySem.W.codeIn K cd1 "listed" = true) (k1 : PySem.W.keepIn K (.ref f1) = true)
    (a2 : PySem.W.nsIn K mainGlobals "dashed" = some (some (.ref f2))) (l2 : K.lookup f2 = some ⟨oc2, od2, .func (PySem.W.fnOf "dashed" "dashed" (defArgs s_dashed) (defBody s_dashed) (defScope s_dashed) .none kV2 dc2 pm2 an2 cd2 ct2), sl2⟩) (c2 : PySem.W.codeIn K cd2 "dashed" = true) (k2 : PySem.W.keepIn K (.ref f2) = true)
    (a3 : PySem.W.nsIn K mainGlobals "figures" = some (some (.ref f3))) (l3 : K.lookup f3 = some ⟨oc3, od3, .func (PySem.W.fnOf "figures" "figures" (defArgs s_figures) (defBody s_figures) (defScope s_figures) .none kV3 dc3 pm3 an3 cd3 ct3), sl3⟩) (c3 : PySem.W.codeIn K cd3 "figures" = true) (k3 : PySem.W.keepIn K (.ref f3) = true)
    (a4 : PySem.W.nsIn K mainGlobals "_law_begin" = some (some (.ref f4))) (l4 : K.lookup f4 = some ⟨oc4, od4, .func (PySem.W.fnOf "_law_begin" "_law_begin" (defArgs s__law_begin) (defBody s__law_begin) (defScope s__law_begin) .none kV4 dc4 pm4 an4 cd4 ct4), sl4⟩) (c4 : PySem.W.codeIn K cd4 "_law_begin" = true) (k4 : PySem.W.keepIn K (.ref f4) = true)
    (a5 : PySem.W.nsIn K mainGlobals "_law_take" = some (some (.ref f5))) (l5 : K.lookup f5 = some ⟨oc5, od5, .func (PySem.W.fnOf "_law_take" "_law_take" (defArgs s__law_take) (defBody s__law_take) (defScope s__law_take) .none kV5 dc5 pm5 an5 cd5 ct5), sl5⟩) (c5 : PySem.W.codeIn K cd5 "_law_take" = true) (k5 : PySem.W.keepIn K (.ref f5) = true)
    (a6 : PySem.W.nsIn K mainGlobals "_law_same" = some (some (.ref f6))) (l6 : K.lookup f6 = some ⟨oc6, od6, .func (PySem.W.fnOf "_law_same" "_law_same" (defArgs s__law_same) (defBody s__law_same) (defScope s__law_same) .none kV6 dc6 pm6 an6 cd6 ct6), sl6⟩) (c6 : PySem.W.codeIn K cd6 "_law_same" = true) (k6 : PySem.W.keepIn K (.ref f6) = true)
    (a7 : PySem.W.nsIn K mainGlobals "_law_number" = some (some (.ref f7))) (l7 : K.lookup f7 = some ⟨oc7, od7, .func (PySem.W.fnOf "_law_number" "_law_number" (defArgs s__law_number) (defBody s__law_number) (defScope s__law_number) .none kV7 dc7 pm7 an7 cd7 ct7), sl7⟩) (c7 : PySem.W.codeIn K cd7 "_law_number" = true) (k7 : PySem.W.keepIn K (.ref f7) = true)
    (a8 : PySem.W.nsIn K mainGlobals "_law_unlike" = some (some (.ref f8))) (l8 : K.lookup f8 = some ⟨oc8, od8, .func (PySem.W.fnOf "_law_unlike" "_law_unlike" (defArgs s__law_unlike) (defBody s__law_unlike) (defScope s__law_unlike) .none kV8 dc8 pm8 an8 cd8 ct8), sl8⟩) (c8 : PySem.W.codeIn K cd8 "_law_unlike" = true) (k8 : PySem.W.keepIn K (.ref f8) = true)
    (a9 : PySem.W.nsIn K mainGlobals "_law_texts" = some (some (.ref f9))) (l9 : K.lookup f9 = some ⟨oc9, od9, .func (PySem.W.fnOf "_law_texts" "_law_texts" (defArgs s__law_texts) (defBody s__law_texts) (defScope s__law_texts) .none kV9 dc9 pm9 an9 cd9 ct9), sl9⟩) (c9 : PySem.W.codeIn K cd9 "_law_texts" = true) (k9 : PySem.W.keepIn K (.ref f9) = true)
    (a10 : PySem.W.nsIn K mainGlobals "_law_told" = some (some (.ref f10))) (l10 : K.lookup f10 = some ⟨oc10, od10, .func (PySem.W.fnOf "_law_told" "_law_told" (defArgs s__law_told) (defBody s__law_told) (defScope s__law_told) .none kV10 dc10 pm10 an10 cd10 ct10), sl10⟩) (c10 : PySem.W.codeIn K cd10 "_law_told" = true) (k10 : PySem.W.keepIn K (.ref f10) = true)
    (a11 : PySem.W.nsIn K mainGlobals "law" = some (some (.ref f11))) (l11 : K.lookup f11 = some ⟨oc11, od11, .func (PySem.W.fnOf "law" "law" (defArgs s_law) (defBody s_law) (defScope s_law) .none kV11 dc11 pm11 an11 cd11 ct11), sl11⟩) (c11 : PySem.W.codeIn K cd11 "law" = true) (k11 : PySem.W.keepIn K (.ref f11) = true)
    (z1 : PySem.W.nsIn K mainGlobals "len" = some none)
    (z2 : PySem.W.nsIn K mainGlobals "divmod" = some none)
    (z3 : PySem.W.nsIn K mainGlobals "range" = some none)
    (z4 : PySem.W.nsIn K mainGlobals "sum" = some none)
    (z5 : PySem.W.nsIn K mainGlobals "all" = some none)
    (z6 : PySem.W.nsIn K mainGlobals "any" = some none)
    (z7 : PySem.W.nsIn K mainGlobals "isinstance" = some none)
    (z8 : PySem.W.nsIn K mainGlobals "str" = some none)
    (z9 : PySem.W.nsIn K mainGlobals "int" = some none)
    (z10 : PySem.W.nsIn K mainGlobals "list" = some none)
    (z11 : PySem.W.nsIn K mainGlobals "tuple" = some none)
    (z12 : PySem.W.nsIn K mainGlobals "bool" = some none)
    (z13 : PySem.W.nsIn K mainGlobals "zip" = some none)
    (z14 : PySem.W.nsIn K mainGlobals "set" = some none)
    (z15 : PySem.W.nsIn K mainGlobals "sorted" = some none)
    (z16 : PySem.W.nsIn K mainGlobals "enumerate" = some none)
    (z17 : PySem.W.nsIn K mainGlobals "repr" = some none)
    (z18 : PySem.W.nsIn K mainGlobals "min" = some none)
    (z19 : PySem.W.nsIn K mainGlobals "max" = some none)
    (z20 : PySem.W.nsIn K mainGlobals "abs" = some none)
    (qaTt : PySem.W.nsIn K mainGlobals "Timetable" = some (some (.ref CTt)))
    (ati : PySem.W.findIn K (.ref CTt) "__init__" = some (some (.ref fti)))
    (iti : PySem.W.isFn K (.ref fti) = true)
    (lti : K.lookup fti = some ⟨octi, odti, .func (PySem.W.fnOf "__init__" "Timetable.__init__" (defArgs s_ti) (defBody s_ti) (defScope s_ti) .none kVti dcti pmti anti cdti ctti), slti⟩)
    (cti : PySem.W.codeIn K cdti "Timetable.__init__" = true)
    (kti : PySem.W.keepIn K (.ref fti) = true)
    (atp : PySem.W.findIn K (.ref CTt) "pair" = some (some (.ref ftp)))
    (itp : PySem.W.isFn K (.ref ftp) = true)
    (ltp : K.lookup ftp = some ⟨octp, odtp, .func (PySem.W.fnOf "pair" "Timetable.pair" (defArgs s_tp) (defBody s_tp) (defScope s_tp) (.ref Ttp) kVtp dctp pmtp antp cdtp cttp), sltp⟩)
    (ctp : PySem.W.codeIn K cdtp "Timetable.pair" = true)
    (ktp : PySem.W.keepIn K (.ref ftp) = true)
    (ttp : K.lookup Ttp = some ⟨ocTtp, odTtp, .seq #[.int 0 tktp_0] nTtp, slTtp⟩)
    (atn : PySem.W.findIn K (.ref CTt) "__len__" = some (some (.ref ftn)))
    (itn : PySem.W.isFn K (.ref ftn) = true)
    (ltn : K.lookup ftn = some ⟨octn, odtn, .func (PySem.W.fnOf "__len__" "Timetable.__len__" (defArgs s_tn) (defBody s_tn) (defScope s_tn) .none kVtn dctn pmtn antn cdtn cttn), sltn⟩)
    (ctn : PySem.W.codeIn K cdtn "Timetable.__len__" = true)
    (ktn : PySem.W.keepIn K (.ref ftn) = true)
    (ate : PySem.W.findIn K (.ref CTt) "__eq__" = some (some (.ref fte)))
    (ite : PySem.W.isFn K (.ref fte) = true)
    (lte : K.lookup fte = some ⟨octe, odte, .func (PySem.W.fnOf "__eq__" "Timetable.__eq__" (defArgs s_te) (defBody s_te) (defScope s_te) .none kVte dcte pmte ante cdte ctte), slte⟩)
    (cte : PySem.W.codeIn K cdte "Timetable.__eq__" = true)
    (kte : PySem.W.keepIn K (.ref fte) = true)
    (atr : PySem.W.findIn K (.ref CTt) "__repr__" = some (some (.ref ftr)))
    (itr : PySem.W.isFn K (.ref ftr) = true)
    (ltr : K.lookup ftr = some ⟨octr, odtr, .func (PySem.W.fnOf "__repr__" "Timetable.__repr__" (defArgs s_tr) (defBody s_tr) (defScope s_tr) .none kVtr dctr pmtr antr cdtr cttr), sltr⟩)
    (ctr : PySem.W.codeIn K cdtr "Timetable.__repr__" = true)
    (ktr : PySem.W.keepIn K (.ref ftr) = true)
    (atz : PySem.W.findIn K (.ref CTt) "__str__" = some (some (.ref ftz)))
    (itz : PySem.W.isFn K (.ref ftz) = true)
    (ltz : K.lookup ftz = some ⟨octz, odtz, .func (PySem.W.fnOf "__str__" "Timetable.__str__" (defArgs s_tz) (defBody s_tz) (defScope s_tz) .none kVtz dctz pmtz antz cdtz cttz), sltz⟩)
    (ctz : PySem.W.codeIn K cdtz "Timetable.__str__" = true)
    (ktz : PySem.W.keepIn K (.ref ftz) = true)
    (pgTt : PySem.W.plainGet K CTt Str.empty = true)
    (hdTt : PySem.W.hasDictIn K CTt = true)
    (poTt : PySem.W.plainOver K CTt = true)
    (saTt : PySem.W.findIn K (.ref CTt) "__setattr__" = some (some (.builtin "object.__setattr__")))
    (mkTt : PySem.W.makesIn K CTt = true)
    (kcTt : PySem.W.keepIn K (.ref CTt) = true)
    (nTt0 : PySem.W.findIn K (.ref CTt) "times" = some none)
    (nTt1 : PySem.W.findIn K (.ref CTt) "length" = some none)
    (icTt : PySem.W.findIn K (.ref CTt) "__class__" = some (some (.builtin "object.__class__")))
    (isTt : PySem.W.specialIn K (.builtin "object.__class__") "__get__" = some (some (.builtin "getset_descriptor.__get__")))
    (ikTt : PySem.W.takesIn K (.builtin "object.__class__") = some true)
    (imTt : PySem.W.mroIn K CTt (.type "object") = some true)
    (inTt : PySem.W.findIn K (.ref CTt) "__ne__" = some (some (.builtin "object.__ne__")))
    (tyTt : PySem.W.typeIn K (.ref CTt) = some (.type "type"))
    (skNoneType : PySem.W.subIn K (.type "NoneType") (.ref CTt) = some false)
    (skint : PySem.W.subIn K (.type "int") (.ref CTt) = some false)
    (skstr : PySem.W.subIn K (.type "str") (.ref CTt) = some false)
    (sklist : PySem.W.subIn K (.type "list") (.ref CTt) = some false)
    (sktuple : PySem.W.subIn K (.type "tuple") (.ref CTt) = some false)
    : ∃ fd : FuncData, (∀ (s : Shared) (v : Value), BindsTo s fd ⟨[v], []⟩ [("_law_script", v)]) ∧ ∀ base : Heap, K.In base → base.Ns mainGlobals mg → FnOk l.prog w K mg base CX0 7 fa fd ["_law_script"] (spLaw K) := by
  have e := hfa.symm.trans (PySem.W.mg_of X G a11)
  cases e
  have T : Txt mg := ⟨PySem.W.mg_none_of X G z1, PySem.W.mg_none_of X G z2, PySem.W.mg_none_of X G z3, PySem.W.mg_none_of X G z4, PySem.W.mg_none_of X G z5, PySem.W.mg_none_of X G z6, PySem.W.mg_none_of X G z7, PySem.W.mg_none_of X G z8, PySem.W.mg_none_of X G z9, PySem.W.mg_none_of X G z10, PySem.W.mg_none_of X G z11, PySem.W.mg_none_of X G z12, PySem.W.mg_none_of X G z13, PySem.W.mg_none_of X G z14, PySem.W.mg_none_of X G z15, PySem.W.mg_none_of X G z16, PySem.W.mg_none_of X G z17, PySem.W.mg_none_of X G z18, PySem.W.mg_none_of X G z19, PySem.W.mg_none_of X G z20⟩
  have F1 := fun_mk (st := s_listed) l1 c1 k1
  have b1 := F1.binds (ps := ["times"]) fun _ _ _ _ _ _ us hl => match us, hl with | [_], _ => rfl
  have g1 := PySem.W.mg_of X G a1
  have F2 := fun_mk (st := s_dashed) l2 c2 k2
  have b2 := F2.binds (ps := ["times"]) fun _ _ _ _ _ _ us hl => match us, hl with | [_], _ => rfl
  have g2 := PySem.W.mg_of X G a2
  have F3 := fun_mk (st := s_figures) l3 c3 k3
  have b3 := F3.binds (ps := ["number"]) fun _ _ _ _ _ _ us hl => match us, hl with | [_], _ => rfl
  have g3 := PySem.W.mg_of X G a3
  have F4 := fun_mk (st := s__law_begin) l4 c4 k4
  have b4 := F4.binds (ps := ["_law_script"]) fun _ _ _ _ _ _ us hl => match us, hl with | [_], _ => rfl
  have g4 := PySem.W.mg_of X G a4
  have F5 := fun_mk (st := s__law_take) l5 c5 k5
  have b5 := F5.binds (ps := ["_law_state", "_law_many"]) fun _ _ _ _ _ _ us hl => match us, hl with | [_, _], _ => rfl
  have g5 := PySem.W.mg_of X G a5
  have F6 := fun_mk (st := s__law_same) l6 c6 k6
  have b6 := F6.binds (ps := ["_law_found", "_law_due"]) fun _ _ _ _ _ _ us hl => match us, hl with | [_, _], _ => rfl
  have g6 := PySem.W.mg_of X G a6
  have F7 := fun_mk (st := s__law_number) l7 c7 k7
  have b7 := F7.binds (ps := ["_law_state"]) fun _ _ _ _ _ _ us hl => match us, hl with | [_], _ => rfl
  have g7 := PySem.W.mg_of X G a7
  have F8 := fun_mk (st := s__law_unlike) l8 c8 k8
  have b8 := F8.binds (ps := ["_law_state", "_law_times", "_law_length"]) fun _ _ _ _ _ _ us hl => match us, hl with | [_, _, _], _ => rfl
  have g8 := PySem.W.mg_of X G a8
  have F9 := fun_mk (st := s__law_texts) l9 c9 k9
  have b9 := F9.binds (ps := ["_law_times", "_law_length"]) fun _ _ _ _ _ _ us hl => match us, hl with | [_, _], _ => rfl
  have g9 := PySem.W.mg_of X G a9
  have F10 := fun_mk (st := s__law_told) l10 c10 k10
  have b10 := F10.binds (ps := ["_law_timetable", "_law_times", "_law_length"]) fun _ _ _ _ _ _ us hl => match us, hl with | [_, _, _], _ => rfl
  have g10 := PySem.W.mg_of X G a10
  have F11 := fun_mk (st := s_law) l11 c11 k11
  refine ⟨PySem.W.fnOf "law" "law" (defArgs s_law) (defBody s_law) (defScope s_law) .none kV11 dc11 pm11 an11 cd11 ct11, fun s v => .of_eq rfl, fun base _ _ => ?_⟩
  have Fti := fun_mk (st := s_ti) lti cti kti
  have bti := Fti.binds (ps := ["self", "times", "length"]) fun _ _ _ _ _ _ us hl => match us, hl with | [_, _, _], _ => rfl
  have Ftp : FunVQ K "pair" "Timetable.pair" s_tp [.int 0] ftp _ := ⟨⟨_, _, _, _, _, _, _, _, _, _, rfl, ltp, ctp, .inr ⟨(by intro z; cases z), Ttp, _, [_], _, rfl, ttp, rfl, .cons (⟨_, rfl⟩) (.nil)⟩, .inl rfl⟩, ktp⟩
  obtain ⟨dstp_0, vtp_0, btp_0⟩ := FunD.binds1 (ps := ["self", "number", "often"]) Ftp 3 1 (by intro z; cases z) rfl (fun T kV doc pm an cdv ct us its hu hi => match us, hu, its, hi with | [_, _, _], _, [_], _ => ⟨_, rfl, rfl⟩)
  obtain ⟨dstp_1, vtp_1, btp_1⟩ := FunD.binds1 (ps := ["self", "number", "often"]) Ftp 2 0 (by intro z; cases z) rfl (fun T kV doc pm an cdv ct us its hu hi => match us, hu, its, hi with | [_, _], _, [_], _ => ⟨_, rfl, rfl⟩)
  have Ftn := fun_mk (st := s_tn) ltn ctn ktn
  have btn := Ftn.binds (ps := ["self"]) fun _ _ _ _ _ _ us hl => match us, hl with | [_], _ => rfl
  have Fte := fun_mk (st := s_te) lte cte kte
  have bte := Fte.binds (ps := ["self", "other"]) fun _ _ _ _ _ _ us hl => match us, hl with | [_, _], _ => rfl
  have Ftr := fun_mk (st := s_tr) ltr ctr ktr
  have btr := Ftr.binds (ps := ["self"]) fun _ _ _ _ _ _ us hl => match us, hl with | [_], _ => rfl
  have Ftz := fun_mk (st := s_tz) ltz ctz ktz
  have btz := Ftz.binds (ps := ["self"]) fun _ _ _ _ _ _ us hl => match us, hl with | [_], _ => rfl
  have clTt : Cls K CTt := ⟨pgTt, hdTt, poTt, saTt⟩
  have meTt : PySem.W.kitOne K (.ref CTt) (.ref CTt) = some true := by
    show (if (Value.ref CTt == Value.ref CTt) = true then some true else _) = some true
    rw [if_pos (by simp)]
  have insTt : C8.InsC K CTt := ⟨clTt, icTt, isTt, ikTt, imTt, meTt⟩
  have TK : TtK K mg CTt := ⟨clTt, nTt0, nTt1, PySem.W.mg_of X G qaTt, insTt, ⟨imTt, inTt⟩⟩
  have KN : KinE K CTt := ⟨fun T hT => by
    simp only [List.mem_cons, List.not_mem_nil, or_false] at hT
    rcases hT with rfl | rfl | rfl | rfl | rfl
    · exact ⟨nf_of skNoneType, kit_subc rfl hdTt tyTt skNoneType⟩
    · exact ⟨nf_of skint, kit_subc rfl hdTt tyTt skint⟩
    · exact ⟨nf_of skstr, kit_subc rfl hdTt tyTt skstr⟩
    · exact ⟨nf_of sklist, kit_subc rfl hdTt tyTt sklist⟩
    · exact ⟨nf_of sktuple, kit_subc rfl hdTt tyTt sktuple⟩⟩
  have c_figures : Cl l.prog w K mg base 1 "figures" (spFig) := ⟨_, _, _, ok_fig F3 T, g3, F3.kp, b3⟩
  have c_listed : Cl l.prog w K mg base 2 "listed" ((spTx K liT)) := ⟨_, _, _, ok_lis F1 T c_figures, g1, F1.kp, b1⟩
  have c_dashed : Cl l.prog w K mg base 2 "dashed" ((spTx K dsT)) := ⟨_, _, _, ok_das F2 T c_figures, g2, F2.kp, b2⟩
  have O : TtC l.prog w K mg base CTt := ⟨TK, ⟨_, _, _, _, ⟨mkTt, ati, iti, kcTt⟩, ok_ti (k := 0) Fti T TK, PySem.W.mg_of X G qaTt, bti, .nil⟩, ⟨_, _, _, _, clTt, ⟨atp, itp, ktp⟩, ok_tp (k := 0) Ftp T TK, btp_0, vtp_0⟩, ⟨_, _, _, _, clTt, ⟨atp, itp, ktp⟩, ok_tp (k := 0) Ftp T TK, btp_1, vtp_1⟩, own_of ⟨atn, itn, ktn⟩ (ok_tn (k := 0) Ftn T TK) btn, own_of ⟨ate, ite, kte⟩ (ok_te (k := 0) Fte T TK) bte, own_of ⟨atr, itr, ktr⟩ (ok_tr (k := 0) Ftr T TK c_figures c_listed) btr, own_of ⟨atz, itz, ktz⟩ (ok_tz (k := 0) Ftz T TK c_figures c_dashed) btz⟩
  have c__law_begin : Cl l.prog w K mg base 1 "_law_begin" ((spBegin K)) := ⟨_, _, _, ok_begin F4 T, g4, F4.kp, b4⟩
  have c__law_take : Cl l.prog w K mg base 1 "_law_take" (spTake) := ⟨_, _, _, ok_take F5 T, g5, F5.kp, b5⟩
  have c__law_number : Cl l.prog w K mg base 2 "_law_number" (spNumb) := ⟨_, _, _, ok_numb F7 T c__law_take, g7, F7.kp, b7⟩
  have c__law_unlike : Cl l.prog w K mg base 2 "_law_unlike" ((spUnl K)) := ⟨_, _, _, ok_unl F8 T c__law_take, g8, F8.kp, b8⟩
  have c__law_same : Cl l.prog w K mg base 4 "_law_same" (spSame K 3) := ⟨_, _, _, ok_same F6 T b6 g6 3, g6, F6.kp, b6⟩
  have c__law_texts : Cl l.prog w K mg base 1 "_law_texts" ((spTxs K)) := ⟨_, _, _, ok_txs F9 T, g9, F9.kp, b9⟩
  have c__law_told : Cl l.prog w K mg base 6 "_law_told" ((spTld K CTt)) := ⟨_, _, _, ok_tld F10 T O c__law_same c__law_texts, g10, F10.kp, b10⟩
  exact ok_law F11 T O KN c__law_begin c__law_take c__law_number c__law_unlike c__law_told
end Pot
open PySem PySem.W PyProof.Rows
set_option maxRecDepth 100000 in
set_option maxHeartbeats 0 in
theorem PySem.Challenge.cw_potround_k21_timetables_holds : PySem.Challenge.rw_potround_k21_timetables.Holds := by
  w_on; o_law; k_head; (case hw => w_witness2)
  k_fill
  refine L2.walk_of (l := PySem.Challenge.rw_potround_k21_timetables) (n := 63) (k := 7) (x := "_law_script") (CX := fun _ => L2.CX0) (sp := fun w => Pot.spLaw _) rfl (by decide) rfl ⟨rfl, by decide, by decide⟩ (fun w h Y => PySem.W.kIn_of Y) ?F (fun _ _ a ns hl _ hS => ⟨a, ns, rfl, hS, hl, fun _ => rfl⟩) (fun _ _ _ _ _ h => h)
  case F =>
    intro w mg fa h KX G hmg
    refine' Pot.all_mk KX G hmg ?a1 ?l1 ?c1 ?k1 ?a2 ?l2 ?c2 ?k2 ?a3 ?l3 ?c3 ?k3 ?a4 ?l4 ?c4 ?k4 ?a5 ?l5 ?c5 ?k5 ?a6 ?l6 ?c6 ?k6 ?a7 ?l7 ?c7 ?k7 ?a8 ?l8 ?c8 ?k8 ?a9 ?l9 ?c9 ?k9 ?a10 ?l10 ?c10 ?k10 ?a11 ?l11 ?c11 ?k11 ?z1 ?z2 ?z3 ?z4 ?z5 ?z6 ?z7 ?z8 ?z9 ?z10 ?z11 ?z12 ?z13 ?z14 ?z15 ?z16 ?z17 ?z18 ?z19 ?z20 ?qaTt ?ati ?iti ?lti ?cti ?kti ?atp ?itp ?ltp ?ctp ?ktp ?ttp ?atn ?itn ?ltn ?ctn ?ktn ?ate ?ite ?lte ?cte ?kte ?atr ?itr ?ltr ?ctr ?ktr ?atz ?itz ?ltz ?ctz ?ktz ?pgTt ?hdTt ?poTt ?saTt ?mkTt ?kcTt ?nTt0 ?nTt1 ?icTt ?isTt ?ikTt ?imTt ?inTt ?tyTt ?skNoneType ?skint ?skstr ?sklist ?sktuple
    (case a1 => k_is)
    (case l1 => k_is)
    (case c1 => k_is)
    (case k1 => k_is)
    (case a2 => k_is)
    (case l2 => k_is)
    (case c2 => k_is)
    (case k2 => k_is)
    (case a3 => k_is)
    (case l3 => k_is)
    (case c3 => k_is)
    (case k3 => k_is)
    (case a4 => k_is)
    (case l4 => k_is)
    (case c4 => k_is)
    (case k4 => k_is)
    (case a5 => k_is)
    (case l5 => k_is)
    (case c5 => k_is)
    (case k5 => k_is)
    (case a6 => k_is)
    (case l6 => k_is)
    (case c6 => k_is)
    (case k6 => k_is)
    (case a7 => k_is)
    (case l7 => k_is)
    (case c7 => k_is)
    (case k7 => k_is)
    (case a8 => k_is)
    (case l8 => k_is)
    (case c8 => k_is)
    (case k8 => k_is)
    (case a9 => k_is)
    (case l9 => k_is)
    (case c9 => k_is)
    (case k9 => k_is)
    (case a10 => k_is)
    (case l10 => k_is)
    (case c10 => k_is)
    (case k10 => k_is)
    (case a11 => k_is)
    (case l11 => k_is)
    (case c11 => k_is)
    (case k11 => k_is)
    (case z1 => k_is)
    (case z2 => k_is)
    (case z3 => k_is)
    (case z4 => k_is)
    (case z5 => k_is)
    (case z6 => k_is)
    (case z7 => k_is)
    (case z8 => k_is)
    (case z9 => k_is)
    (case z10 => k_is)
    (case z11 => k_is)
    (case z12 => k_is)
    (case z13 => k_is)
    (case z14 => k_is)
    (case z15 => k_is)
    (case z16 => k_is)
    (case z17 => k_is)
    (case z18 => k_is)
    (case z19 => k_is)
    (case z20 => k_is)
    (case qaTt => k_is)
    (case ati => k_is)
    (case iti => k_is)
    (case lti => k_is)
    (case cti => k_is)
    (case kti => k_is)
    (case atp => k_is)
    (case itp => k_is)
    (case ltp => k_is)
    (case ctp => k_is)
    (case ktp => k_is)
    (case ttp => k_is)
    (case atn => k_is)
    (case itn => k_is)
    (case ltn => k_is)
    (case ctn => k_is)
    (case ktn => k_is)
    (case ate => k_is)
    (case ite => k_is)
    (case lte => k_is)
    (case cte => k_is)
    (case kte => k_is)
    (case atr => k_is)
    (case itr => k_is)
    (case ltr => k_is)
    (case ctr => k_is)
    (case ktr => k_is)
    (case atz => k_is)
    (case itz => k_is)
    (case ltz => k_is)
    (case ctz => k_is)
    (case ktz => k_is)
    (case pgTt => k_is)
    (case hdTt => k_is)
    (case poTt => k_is)
    (case saTt => k_is)
    (case mkTt => k_is)
    (case kcTt => k_is)
    (case nTt0 => k_is)
    (case nTt1 => k_is)
    (case icTt => k_is)
    (case isTt => k_is)
    (case ikTt => k_is)
    (case imTt => k_is)
    (case inTt => k_is)
    (case tyTt => k_is)
    (case skNoneType => k_is)
    (case skint => k_is)
    (case skstr => k_is)
    (case sklist => k_is)
    (case sktuple => k_is)
