import PyProof.Rows.All
import Wide.All
import OpenK.AllK
import Wide.FinOn
import HandS.ForMost
import PyProof.ReprRoads
import HandS.FStrTup
import HandS.Strs
import HandS.SetFor
import HandS.Zip
import HandS.ForExc
import HandS.IsInst
import HandS.Evl
import HandS.Conv
import HandS.Flow
import HandS.Style
import HandS.Sort
import HandS.Walk
import HandS.Codes
import HandS.StrMore
import HandS.TupAny
import HandS.Defaults
import KE.KEqSeq
import HandS.WideBits
import HandS.More
import PyProof.SetRoads
import HandS.Deep
import PyProof.StrBlock2
import KE.GoesNew
import KE.SortData
import PyProof.Rows.StrCase
import PyProof.Rows.ReprOcc
import PyProof.FitsInt
import PySem.Challenge.RW_potround_k40_offers_and_wants_of_days
set_option Elab.async false
set_option linter.all false
set_option maxRecDepth 100000
namespace Pot
open PySem PySem.Spec PyProof.Rows L2
/-! ### defs that are called where no text of a thing is under way -/
structure FnG (P : Program) (w : World) (K : PySem.W.Frag) (mg : Str → Option Value) (base : Heap) (k : Nat) (f : Addr) (fd : FuncData) (ps : List Str) (sp : Sp) : Prop where
  many : ∀ vs H Q E, sp vs H Q E → vs.length = ps.length
  does : ∀ (A : Around) (outer : List Env) (s : Shared) (H : Hp) (args : Args) (us : List Value) (vs : List V) (Q : VK), A.guards = some [] → Room k A → Env0 P w K mg base A outer s H →
    BindsTo s fd args (ps.zip us) → Vals vs us → sp vs H Q E0 → codeAny (model P w) A (.call (.ref f) args) (CR CX0 outer P w H s Q E0) s
section
variable {P : Program} {w : World} {K : PySem.W.Frag} {mg : Str → Option Value} {base : Heap}
theorem FnG.of {k : Nat} {f : Addr} {fd : FuncData} {ps : List Str} {sp : Sp} (F : FnOk P w K mg base CX0 k f fd ps sp) : FnG P w K mg base k f fd ps sp :=
  ⟨F.len, fun A outer s H args us vs Q _ hr e hb r h => F.run A outer s H args us vs Q E0 hr e hb r h⟩
theorem okG {x qual : Str} {st : Stmt} {f : Addr} {fd : FuncData} {N ps : List Str} {k : Nat} {sp : Sp} (F : Fun K x qual st f fd) (S : FnScope N ps (defScope st)) (many : ∀ vs H Q E, sp vs H Q E → vs.length = ps.length)
    (body : ∀ (cdv : Value) (A : Around) (outer : List Env) (s : Shared) (H : Hp) (vs : List V) (Q : VK), A.guards = some [] → Room k (A.deeper (envOfC qual (defScope st) s.heap.objs.size f cdv)) → sp vs H Q E0 →
      ∃ t, PSs (cxOf CX0 P w K mg base N qual (defScope st) f cdv A outer s H E0).nox (defBody st) t ∧ t { nx := fun _ H' => Q .non H', rt := Q } (start N vs) H) : FnG P w K mg base (k + 1) f fd ps sp := by
  obtain ⟨oc, od, kV, doc, pm, an, cdv, ct, osl, rfl, at_, code⟩ := F.ex
  refine ⟨many, fun A outer s H args us vs Q gd room e0 bind rel want => ?_⟩
  have kin : K.In s.heap := e0.mod.kin.keeps fun b o e => (e0.bs b o e).1
  have nolim : s.heap.NoLimit := e0.mod.nolimit.keeps fun b o e => (e0.bs b o e).1
  refine codeAny_call_function room.depth (kin _ _ at_) rfl S.co S.gen rfl (PySem.W.codeRec_of kin code) (bind _ _ _ _ (wpAny_newFunctionEnv_cells S.kind (fun y hy => ?_) fun env he s1 x => ?_))
  · obtain ⟨n, v⟩ := y
    exact (S.par n (List.of_mem_zip hy).1).imp id fun q => ⟨q, PySem.W.cellsFrom_some _ _ _ (.inl q)⟩
  · subst he
    obtain ⟨t, ht, hq⟩ := body cdv A outer s H vs Q gd (room.deeper _) want
    have I : Inv (cxOf CX0 P w K mg base N qual (defScope st) f cdv A outer s H E0) [] (start N vs) H s1 := inv_start S room.hd e0 (many _ _ _ _ want) rel x
    refine ⟨nolim.keeps x.toInCall.keep, codeAny_func (wpAny_mono (ht.nox.run [] s1 (start N vs) H _ I hq) (fun fl s' hs => ?_) fun _ _ z => z)⟩
    cases fl with
    | ret u =>
      obtain ⟨v, σ', H', J, rv, q⟩ := hs
      exact ⟨v, H', J.os, J.bare, J.base, J.hok, rv, q⟩
    | next =>
      obtain ⟨σ', H', J, q⟩ := hs
      exact ⟨V.non, H', J.os, J.bare, J.base, J.hok, rfl, q⟩
    | brk => obtain ⟨_, _, _, q⟩ := hs; exact q.elim
    | cont => obtain ⟨_, _, _, q⟩ := hs; exact q.elim
/-! calls -/
/-- a def that may be called by its name where no text is under way -/
def ClG (P : Program) (w : World) (K : PySem.W.Frag) (mg : Str → Option Value) (base : Heap) (k : Nat) (x : Str) (ds : List V) (sp : Sp) : Prop :=
  ∃ (f : Addr) (fd : FuncData) (ps : List Str) (dus : List Value), FnG P w K mg base k f fd ps sp ∧ mg x = some (.ref f) ∧ PySem.W.keepIn K (.ref f) = true ∧ Binds K fd ps dus ∧ Vals ds dus
theorem pe_clG {X : Cx} {k j : Nat} {x : Str} {ds : List V} {sp : Sp} {e : Expr} {es : List Expr} {t : TA} {p pos : Pos} (c : ClG X.prog X.w X.K X.mg X.base k x ds sp) (hr : Room j X.A) (gd : X.A.guards = some []) (hk : k ≤ j) (hg : Gl X x) (ha : PA X (e :: es) t)
    (hdb : (x == ("__debug__" : Str)) = false := by decide) (he : starEach (e :: es) X.env = (false, eval e X.env) :: starEach es X.env := by rfl) (hpl : (backTo pos (starEach es X.env)).any (·.1) = false := by rfl) :
    PE X (.Call (.Name x p) (e :: es) [] pos) (tCall sp ds E0 t) := by
  obtain ⟨f, fd, ps, dus, G, named, kept, binds, dv⟩ := c
  refine ⟨fun pins s σ H Q I h => wpAny_Call_Name_kw (ld_glob I hg named (PySem.W.callWith_K (h₀ := X.base) I.ok.mod.kin kept (thn (ha.run pos pins s σ H _ I h) fun us s1 hh => ?_) he hpl) hdb)⟩
  obtain ⟨vs, H1, I1, r, q⟩ := hh
  refine ⟨I1.kIn, ?_⟩
  have rel := r.append dv
  have n : (us ++ dus).length = ps.length := rel.length ▸ G.many _ _ _ _ q
  refine wpAny_call (codeAny_mono (G.does X.A X.stack s1 H1 ⟨us, []⟩ (us ++ dus) (vs ++ ds) Q gd (hr.mono hk) I1.env0 (binds s1 us I1.kIn n) rel q) fun res s' hq => ?_)
  rcases res with _ | fl
  case error => exact (show False from hq).elim
  cases fl <;> first | exact I1.after hq | exact (show False from hq).elim
/-! the law's own call -/
theorem law_callG {mb : Str → Option Value} {k : Nat} {fa a : Addr} {fd : FuncData} {x : Str} {sp : Sp} {s : Shared} {vs : List Value} {ns : List Int} (kin : K.In s.heap) (glob : s.heap.Ns mainGlobals mg) (blt : s.heap.Ns builtinsNs mb)
    (boot : ∀ y : Str, y ≠ "__name__" → mb y = bootBuiltins y) (lim : s.heap.NoLimit) (gens : s.gens = #[]) (obj : s.heap.get? a = some { cls := .type "list", data := .seq vs.toArray }) (whole : IntsAre vs ns) (small : ns.length ≤ sizeLine) (room : Room k callerA)
    (F : ∀ base : Heap, K.In base → base.Ns mainGlobals mg → FnG P w K mg base k fa fd [x] sp) (bind : ∀ (s : Shared) (u : Value), BindsTo s fd ⟨[u], []⟩ [(x, u)])
    (want : ∀ H : Hp, Only H → SqL K H a (ns.map V.int) → sp [.ref a] H (fun v _ => v = .bl true) E0) :
    codeAny (model P w) callerA (.call (.ref fa) ⟨[.ref a], []⟩) (fun r s' => r = .ok (.ret (.bool true)) ∧ OldK s.heap s'.heap ∧ s'.os = s.os ∧ AllBare s'.gens) s := by
  have rv := vals_ints whole
  have nv := whole.length
  -- which heap is told: the script, locked, where it isn't one of the written part
  obtain ⟨H, only, seq, fine, alone, apart⟩ : ∃ H : Hp, Only H ∧ SqL K H a (ns.map V.int) ∧ HOk P w H s.heap ∧ (∀ b u, H b = some u → b = a) ∧ (∀ u, H a = some u → K.lookup a = none) := by
    cases lk : K.lookup a with
    | some o =>
      have same := kin a o lk
      rw [obj] at same
      cases same
      exact ⟨fun _ => none, fun _ => .inl rfl, .inr ⟨_, vs.toArray, _, lk, rfl, rfl, rfl, by rw [List.size_toArray, nv]; exact small, by simpa using rv⟩, (fun b u z => nomatch (show (none : Option HO) = some u from z)), (fun b u z => nomatch (show (none : Option HO) = some u from z)), fun u z => nomatch (show (none : Option HO) = some u from z)⟩
    | none =>
      have hit : ∀ b u, (if b = a then some (HO.frz { cls := .type "list", data := .seq vs.toArray } (.lst (ns.map V.int))) else none) = some u → b = a ∧ u = .frz { cls := .type "list", data := .seq vs.toArray } (.lst (ns.map V.int)) := fun b u z => by
        split at z
        · cases z; exact ⟨‹_›, rfl⟩
        · cases z
      refine ⟨fun b => if b = a then some (.frz { cls := .type "list", data := .seq vs.toArray } (.lst (ns.map V.int))) else none, fun b => ?_, .inl (.inr ⟨_, if_pos rfl⟩), fun b u z => ?_, fun b u z => (hit b u z).1, fun _ _ => rfl⟩
      · by_cases hb : b = a
        · exact .inr ⟨_, _, if_pos hb⟩
        · exact .inl (if_neg hb)
      · obtain ⟨rfl, rfl⟩ := hit b u z
        exact ⟨obj, by rw [List.length_map]; exact small, vs, _, rv, obj⟩
  have hid : ∀ {b : Addr} {o : Obj}, s.heap.get? b = some o → (b = a → H a = none) → (hidT s.heap H).get? b = some o := fun {b o} e n => hidT_get e (by
    cases q : H b with
    | none => rfl
    | some u =>
      have e2 := alone b u q
      subst e2
      rw [n rfl] at q
      cases q)
  have kinB : K.In (hidT s.heap H) := fun b o e => hid (kin b o e) fun z => by
    subst z
    cases q : H b with
    | none => rfl
    | some u => rw [apart u q] at e; cases e
  have ns_ : ∀ {b : Addr} {m : Str → Option Value}, s.heap.Ns b m → (hidT s.heap H).Ns b m := fun {b m} h => by
    obtain ⟨o, es, ep, e, d, r⟩ := h
    refine ⟨o, es, ep, hid e fun z => ?_, d, r⟩
    subst z
    rw [obj] at e
    cases e
    exact nomatch (show Data.seq vs.toArray _ = Data.dict es ep from d)
  have md : Mod K mg (hidT s.heap H) := ⟨kinB, ns_ glob, ⟨mb, ns_ blt, boot⟩, by obtain ⟨mc, h1, h2⟩ := lim; exact ⟨mc, ns_ h1, h2⟩⟩
  have e0 : Env0 P w K mg (hidT s.heap H) callerA [] s H := ⟨rfl, md, fun b o e => of_hidT e, Nat.le_of_eq (hidT_size _ _), trivial, (fun b hb => nomatch (show b ∈ ([] : List Addr) from hb)), fine, .of_eq gens⟩
  refine codeAny_mono ((F _ kinB (ns_ glob)).does callerA [] s H ⟨[.ref a], []⟩ [.ref a] [.ref a] _ rfl room e0 (bind s (.ref a)) (.cons rfl .nil) (want H only seq)) fun res s' h => ?_
  rcases res with _ | fl
  case error => exact (show False from h).elim
  cases fl <;> first | exact (show False from h).elim | skip
  obtain ⟨v, H', os, bare, un, fine', rel, q⟩ := h
  cases (show v = .bl true from q)
  cases (show _ = Value.bool true from rel)
  refine ⟨rfl, OldK.of_keep fun b o e => ?_, os, bare⟩
  cases q : H b with
  | none => exact un.keep b o e q (fun z => nomatch (show b ∈ ([] : List Addr) from z)) (fun z => nomatch z)
  | some u =>
    rcases only b with z | ⟨ob, xs, z⟩
    · rw [q] at z; cases z
    · obtain ⟨e1, _⟩ := fine b _ z
      obtain ⟨e2, _⟩ := fine' b _ (un.frzs b ob _ z)
      rw [e] at e1; cases e1
      exact e2
end
theorem walkG {l : PySem.W.OpenLaw} {n k : Nat} {q : Program} {loose : List Str} {XP : (Str → Option Value) → Heap → Prop} {YP : World → Heap → Prop} {d : DefRec} {K : Params → PySem.W.Frag} {sp : World → Sp} {x : Str}
    (most : l.most = some n) (fits : n ≤ sizeLine) (plain : d.params.defaults = []) (room : Room k callerA) (part : ∀ (w : World) (h : Heap), YP w h → (K w.params).In h)
    (F : ∀ (w : World) (mg : Str → Option Value) (fa : Addr) (h : Heap), (K w.params).In h → h.Ns mainGlobals mg → mg d.name = some (.ref fa) →
      ∃ fd : FuncData, (∀ (s : Shared) (u : Value), BindsTo s fd ⟨[u], []⟩ [(x, u)]) ∧ ∀ base : Heap, (K w.params).In base → base.Ns mainGlobals mg → FnG l.prog w (K w.params) mg base k fa fd [x] (sp w))
    (want : ∀ (w : World) (H : Hp) (a : Addr) (ns : List Int), ns.length ≤ n → Only H → SqL (K w.params) H a (ns.map V.int) → sp w [.ref a] H (fun v _ => v = .bl true) E0) :
    PySem.W.WalkO q loose XP YP l.row.toRowW d [] (fun f vs => PySem.call f vs) := by
  refine Att.attach_call most plain fun w s₀ s₁ mg mb fa o pm cd doc a vs ns G Y _ _ _ named obj whole len gens => ?_
  obtain ⟨fd, bind, hF⟩ := F w mg fa _ (part w _ Y) G.T.g named
  exact law_callG (part w _ Y) G.T.g G.T.b G.T.builtins G.T.nolimit gens obj whole (Nat.le_trans len fits) room hF bind fun H only seq => want w H a ns len only seq
end Pot

namespace Pot
open PySem PySem.Spec PyProof.Rows L2
/-! ### repr of what is made of numbers, texts, truths, None, lists and tuples -/
section
variable {K : PySem.W.Frag}
mutual
theorem dp_noDict {H : Hp} : ∀ {v : V} {d : PyData}, Dp K H v d → d.hasDict = false
  | _, _, .non => rfl
  | _, _, .bl _ => rfl
  | _, _, .int _ => rfl
  | _, _, .str _ => rfl
  | _, _, .lst _ a => dpAll_noDict a
  | _, _, .tup _ a => dpAll_noDict a
theorem dpAll_noDict {H : Hp} : ∀ {vs : List V} {ds : List PyData}, DpAll K H vs ds → PyData.hasDictAll ds = false
  | _, _, .nil => rfl
  | _, _, .cons h t => by
    show (PyData.hasDict _ || PyData.hasDictAll _) = false
    rw [dp_noDict h, dpAll_noDict t]
    rfl
end
/-- how long its text may be, told roughly -/
def costAll : List PyData → Nat
  | [] => 0
  | x :: xs => cost x + 2 + costAll xs
where cost : PyData → Nat
  | .none => 4
  | .bool _ => 5
  | .int _ => 1921
  | .str x => 10 * x.length + 2
  | .list xs => costAll xs + 3
  | .tuple xs => costAll xs + 3
  | .dict _ => 0
/-- what repr is asked of here: its texts of plain signs -/
def fineAll : List PyData → Prop
  | [] => True
  | x :: xs => fine x ∧ fineAll xs
where fine : PyData → Prop
  | .none => True
  | .bool _ => True
  | .int i => i.natAbs.log2 < 1920
  | .str x => ∀ c ∈ x.cps.toList, c < 16 ^ 8
  | .list xs => fineAll xs
  | .tuple xs => fineAll xs
  | .dict _ => False
theorem from_len : ∀ (ts : List Str) (k : Nat) (acc : Str), (textFrom k acc ts).length ≤ acc.length + piled ts
  | [], k, acc => by rw [piled_nil]; exact Nat.le_refl _
  | t :: r, k, acc => by
    have ih := from_len r (k + 1)
    rw [piled_cons]
    unfold textFrom
    refine Nat.le_trans (ih _) ?_
    rw [strLen_append]
    split
    · rw [strLen_append]
      have e : (", " : Str).length = 2 := by decide +kernel
      omega
    · rw [strLen_append]
      have e : ("" : Str).length = 0 := by decide +kernel
      omega
theorem list_len (ts : List Str) : (listText ts).length ≤ piled ts + 2 := by
  unfold listText
  rw [strLen_append]
  have h := from_len ts 0 "["
  have e1 : ("[" : Str).length = 1 := by decide +kernel
  have e2 : ("]" : Str).length = 1 := by decide +kernel
  omega
mutual
theorem shown_len : ∀ d : PyData, fineAll.fine d → d.shown.length ≤ costAll.cost d
  | .none, _ => by decide +kernel
  | .bool b, _ => by cases b <;> decide +kernel
  | .int i, h => PyProof.Rows.int_text_len_1921 h
  | .str x, h => StrLaws.reprText_len x h
  | .list xs, h => Nat.le_trans (list_len _) (Nat.add_le_add (piled_len xs h) (by decide))
  | .tuple xs, h => Nat.le_trans (fmt_text _) (Nat.add_le_add (piled_len xs h) (by decide))
  | .dict _, h => h.elim
theorem piled_len : ∀ ds : List PyData, fineAll ds → piled (PyData.shownAll ds) ≤ costAll ds
  | [], _ => Nat.le_refl _
  | x :: xs, h => by
    have h1 := shown_len x h.1
    have h2 := piled_len xs h.2
    show piled (x.shown :: PyData.shownAll xs) ≤ costAll.cost x + 2 + costAll xs
    rw [piled_cons]
    omega
end
mutual
theorem fine_show : ∀ d : PyData, fineAll.fine d → d.showable = true
  | .none, _ => rfl
  | .bool _, _ => rfl
  | .int i, h => decide_eq_true h
  | .str _, _ => rfl
  | .list xs, h => fineAll_show xs h
  | .tuple xs, h => fineAll_show xs h
  | .dict _, h => h.elim
theorem fineAll_show : ∀ ds : List PyData, fineAll ds → PyData.showableAll ds = true
  | [], _ => rfl
  | x :: xs, h => by
    show (PyData.showable x && PyData.showableAll xs) = true
    rw [fine_show x h.1, fineAll_show xs h.2]
    rfl
end
end
section
variable {X : Cx}
def rRepr (K : PySem.W.Frag) : List V → Hp → VK → Prop := fun xs H Q => ∃ (a : Addr) (d : PyData), xs = [V.ref a] ∧ Dp K H (.ref a) d ∧ fineAll.fine d ∧ d.depth ≤ 60 ∧ costAll.cost d ≤ 16777216 ∧ Q (.str d.shown) H
theorem cr_repr (gd : X.A.guards = some []) (hu : X.A.units + 64 < cLine) : CallR X (.builtin "repr") (rRepr X.K) := by
  intro pins s σ H vs us Q I r h
  obtain ⟨a, d, rfl, dp, sh, dep, sz, q⟩ := h
  rw [Vals.ref1 r]
  obtain ⟨as, rd⟩ := Dp.reads I d (.ref a) (.ref a) dp rfl
  refine repr_of_reads' rd (fine_show d sh) (fun z => ?_) gd (by omega) (fun _ _ e => e) (fun h' u tk k => ⟨.str d.shown, H, I.kept k, ⟨u, rfl⟩, q⟩) (Nat.le_trans (shown_len d sh) (by rw [sizeLine_eq]; exact sz))
  rw [dp_noDict dp] at z
  cases z
end
end Pot

namespace Pot
open PySem PySem.Spec PyProof.Rows L2 PySem.W PySem.Calls
/-! ### set(xs) of a list of ints -/
/-- the object that set() makes first -/
abbrev emptySet (w : World) : Obj := { cls := .type "set", dict := none, data := .set #[] 0 (.fresh 0 0 (!w.params.followText "set-order")) }
section
variable {P : Program} {w : World} {A : Around} {E : Value → Shared → Prop} {s : Shared}
/-- what is wanted behind the filling -/
def Filled (w : World) (s : Shared) (ns : List Int) (s' : Shared) : Prop := ∃ h' tk c, s' = { s with heap := h', toks := tk } ∧ SetR w h' s.heap.objs.size (fun j => decide (j ∈ ns)) c ∧ c ≤ ns.length ∧ ∀ b o, s.heap.get? b = some o → h'.get? b = some o
set_option maxHeartbeats 4000000 in
theorem call_set_li {l : Addr} {items : Array Value} (ns : List Int) {Q : Value → Shared → Prop} (hh : A.handled = none) (hl : s.heap.IsList l items) (hit : IntsAre items.toList ns) (hb : ns.length + 1 < scanBound)
    (hq : ∀ s', Filled w s ns s' → Q (.ref s.heap.objs.size) s') : wpAny (model P w) A (call (.type "set") [.ref l]) Q E s := by
  have size : items.size = ns.length := by
    rw [← Array.length_toList]; exact IntsAre.length hit
  have made := F.called_set.made
  have below := F.called_set.sub
  obtain ⟨_, _, chain⟩ := F.called_set.mro
  have nt := F.called_set.notType
  have cc := F.called_set.canCreate
  have ck := F.typeCall_set_1 (.ref l)
  refine wpAny_call (codeAny_of_tree (show wpAny _ _ (callAny (.type "set") _) _ _ _ from wpAny_pure ⟨Code.quiet_builtin _ (by decide +kernel), codeAny_builtin F.entry_type_call ?_⟩))
  rw [Around.under_plain (weight_type_call_type "set" [.ref l] []) rfl]
  repeat (any_goals (first | assumption | wp_step))
  refine codeAny_mono (code_set_led1 (.ref l) (E := E) (Q₁ := fun obj z => obj = .ref s.heap.objs.size ∧ z = { s with heap := s.heap.push (emptySet w) }) ⟨rfl, rfl⟩) fun r z hr => ?_
  rcases r with _ | fl
  case error => exact hr
  cases fl <;> first | exact hr.elim | skip
  obtain ⟨rfl, rfl⟩ := hr
  have at0 : (s.heap.push (emptySet w)).get? s.heap.objs.size = some (emptySet w) := Heap.get?_push_size _ rfl
  have ty0 : Shared.TypeIs { s with heap := s.heap.push (emptySet w) } (.ref s.heap.objs.size) "set" := ⟨_, at0, rfl⟩
  have li := F.called_set.init.lookup
  have bi := F.called_set.init.bind (.ref s.heap.objs.size)
  repeat (any_goals (first | assumption | wp_step))
  refine codeAny_mono (codeAny_call_builtin (R := wants (fun r z => r = .none ∧ Filled w s ns z) E) F.called_set.init.plain F.entry_set_init (check_set_init_1 ty0 ?_)) fun r z hz => ?_
  · obtain ⟨⟨_, od, _, os⟩, hol, hcl, nl, hdl⟩ := hl
    simp only at hcl hdl
    subst hcl
    subst hdl
    have keep : (s.heap.push (emptySet w)).get? l = some { cls := .type "list", dict := od, data := .seq items nl, slots := os } := Heap.get?_push_of_some _ hol
    have s1 := F.sub_list_set
    have s2 := F.sub_list_frozenset
    have s3 : (Value.type "list" == Value.type "dict") = false := by decide
    have isl : (s.heap.push (emptySet w)).IsList l items := ⟨_, keep, rfl, nl, rfl⟩
    unfold Builtin.«set.__init__» noKeywords Builtin.Frozenset.updateFrom
    generalize hPI : pyIter = PI
    wp_walk
    subst hPI
    refine wpAny_pyIter_list isl (wpAny_bind (wpAny_runValue ?_))
    have lt : l < s.heap.objs.size := Heap.lt_size hol
    have sz : (s.heap.push (emptySet w)).objs.size = s.heap.objs.size + 1 := Heap.size_push ..
    have ne1 : l ≠ (s.heap.push (emptySet w)).objs.size := by rw [sz]; exact Nat.ne_of_lt (Nat.lt_succ_of_lt lt)
    have ne2 : s.heap.objs.size ∉ [(s.heap.push (emptySet w)).objs.size, l] := by
      rw [sz]
      intro z
      rcases List.mem_cons.mp z with z | z
      · exact absurd z (Nat.ne_of_lt (Nat.lt_succ_self _))
      · exact absurd (List.mem_singleton.mp z) (Nat.ne_of_gt lt)
    have each : ∀ (i : Nat) (v : Value), items[i]? = some v → ∃ k t, ns[i]? = some k ∧ v = .int k t := fun i v hv => by
      have hi : i < ns.length := size ▸ (Array.getElem?_eq_some_iff.mp hv).1
      obtain ⟨t, e⟩ := IntsAre.int_at hit i v (by rw [Array.getElem?_toList]; exact hv)
      exact ⟨ns[i], t, List.getElem?_eq_getElem hi, by rw [e, List.getD_eq_getElem?_getD, List.getElem?_eq_getElem hi]; rfl⟩
    refine set_update_ints ((Walks.list (show A.in1.in1.in1.handled = none by simp [hh]) _ l ne1 items).toS) s.heap.objs.size ne2 ns size hb each (items.size - 0) 0 _ (by omega) (Nat.zero_le _) ⟨⟨_, Heap.get?_push_size _ rfl, rfl, rfl⟩, isl.push _⟩ ⟨0, Nat.le_refl 0, setR_new_at (Heap.get?_push_of_some _ at0)⟩ fun s' c hm hc hS => ?_
    obtain ⟨h', g, d, tk, o⟩ := s'
    cases (show g = s.gens from hm.gens)
    cases (show d = s.drawn from hm.drawn)
    cases (show o = s.os from hm.os)
    refine (show wpAny _ _ _ _ _ _ from wpAny_pure (show wpAny _ _ (ret Value.none) _ _ _ from wpAny_pure ⟨rfl, h', tk, c, rfl, hS, size ▸ hc, fun b o e => ?_⟩))
    have hb0 : b < s.heap.objs.size := Heap.lt_size e
    refine hm.heap b o (fun z => ?_) (Heap.get?_push_of_some _ (Heap.get?_push_of_some _ e))
    rcases List.mem_cons.mp z with z | z
    · exact absurd z (Nat.ne_of_lt hb0)
    · exact absurd ((List.mem_singleton.mp z).trans sz) (Nat.ne_of_lt (Nat.lt_succ_of_lt hb0))
  · rcases r with _ | fl
    case error => exact hz
    cases fl <;> first | exact hz.elim | skip
    obtain ⟨rfl, f⟩ := hz
    obtain ⟨h', tk, c, rfl, hS, hc, k⟩ := id f
    repeat (any_goals (first | assumption | wp_step))
    exact hq _ ⟨_, _, _, rfl, hS, hc, k⟩
end
section
variable {X : Cx}
/-- set(xs), at most 60 ints: a set of just these -/
def rSetLi (K : PySem.W.Frag) (w : World) : List V → Hp → VK → Prop := fun xs H Q => ∃ (a : Addr) (ns : List Int), xs = [V.ref a] ∧ SqL K H a (ns.map V.int) ∧ ns.length ≤ 1000 ∧
  ∀ (p : Addr) (c : Nat), H p = none → c ≤ ns.length → Q (.ref p) (upd H p (SetO w p (fun k => decide (k ∈ ns)) c))
theorem cr_setLi (hc : X.calm = true) : CallR X (.type "set") (rSetLi X.K X.w) := by
  intro pins s σ H vs us Q I r h
  obtain ⟨a, ns, rfl, hS, hl, q⟩ := h
  rw [Vals.ref1 r]
  obtain ⟨its, rv, pl, hz⟩ := I.list hS
  refine call_set_li ns (I.ok.hd hc) pl.isList (by simpa using Vals.ints rv) (by unfold scanBound; omega) fun s' f => ?_
  obtain ⟨h', tk, c, rfl, R, hcn, k⟩ := f
  have hn : H s.heap.objs.size = none := I.hok.fresh (Nat.le_refl _)
  have J : Inv X pins σ (upd H s.heap.objs.size (SetO X.w s.heap.objs.size (fun k => decide (k ∈ ns)) c)) { s with heap := h', toks := tk } := I.laid (t' := tk) k (Nat.le_refl _) (setO_new R)
  exact ⟨.ref s.heap.objs.size, _, J, rfl, q _ _ hn hcn⟩
end
end Pot

/-! The rules whose readings name the written part, with it as a letter of its own. -/
namespace Pot
open PySem PySem.Spec PyProof.Rows L2
section
variable {X : Cx} {K : PySem.W.Frag}
theorem kx_list (h : X.K = K := by rfl) : IxR X (rIxL K) := h ▸ ix_list
theorem kx_tup (h : X.K = K := by rfl) : IxR X (rIxT K) := h ▸ ix_tup
theorem kl_list (h : X.K = K := by rfl) : SlR X (rSlL K) := h ▸ sl_list
theorem kl_tup (h : X.K = K := by rfl) : SlR X (rSlA K) := h ▸ sl_tupA
theorem ko_in (h : X.K = K := by rfl) : OpR X (compareOp .In) (rIn K false) := h ▸ op_in_seq
theorem ko_eq (hu : X.A.units + 64 < cLine) (h : X.K = K := by rfl) : OpR X (compareOp .Eq) (rEqD K) := h ▸ op_eqD hu
theorem ko_ne (hu : X.A.units + 64 < cLine) (h : X.K = K := by rfl) : OpR X (compareOp .NotEq) (rNeD K) := h ▸ op_neD hu
def rLen (K : PySem.W.Frag) : List V → Hp → VK → Prop := fun xs H Q => ∃ x n, xs = [x] ∧ LenV K x H n ∧ Q (.int n) H
theorem kc_len (h : X.K = K := by rfl) : CallR X (.builtin "len") (rLen K) := by subst h; exact call_len
def rListOf (K : PySem.W.Frag) : List V → Hp → VK → Prop := fun xs H Q => ∃ p ys, xs = [.ref p] ∧ (SqL K H p ys ∨ SqT K H p ys) ∧ ∀ l, H l = none → Q (.ref l) (upd H l (.lst ys))
theorem kc_list (h : X.K = K := by rfl) : CallR X (.type "list") (rListOf K) := by subst h; exact call_list_of
def rTupleOf (K : PySem.W.Frag) : List V → Hp → VK → Prop := fun xs H Q => ∃ p ys, xs = [.ref p] ∧ ((SqL K H p ys ∧ ∀ l, H l = none → Q (.ref l) (upd H l (.tup ys))) ∨ (SqT K H p ys ∧ Q (.ref p) H))
theorem kc_tuple (h : X.K = K := by rfl) : CallR X (.type "tuple") (rTupleOf K) := by subst h; exact call_tuple_of
theorem kc_sum (hc : X.calm = true := by rfl) (h : X.K = K := by rfl) : CallR X (.builtin "sum") (rSum K) := h ▸ cr_sum hc
theorem kc_all (hc : X.calm = true := by rfl) (h : X.K = K := by rfl) : CallR X (.builtin "all") (rAll K) := h ▸ cr_all hc
theorem kc_any (hc : X.calm = true := by rfl) (h : X.K = K := by rfl) : CallR X (.builtin "any") (rAny K) := h ▸ cr_any hc
theorem kc_sorted (h : X.K = K := by rfl) : CallR X (.builtin "sorted") (rSorted K) := h ▸ cr_sorted
theorem kc_sortedS (h : X.K = K := by rfl) : CallR X (.builtin "sorted") (rSortedS K) := h ▸ cr_sortedS
theorem kc_isi (h : X.K = K := by rfl) : CallR X (.builtin "isinstance") (rIsi K) := h ▸ call_isi
theorem kc_isiT (h : X.K = K := by rfl) : CallR X (.builtin "isinstance") (rIsiT K) := h ▸ call_isiT
theorem kc_repr (gd : X.A.guards = some []) (hu : X.A.units + 64 < cLine) (h : X.K = K := by rfl) : CallR X (.builtin "repr") (rRepr K) := h ▸ cr_repr gd hu
theorem kc_setLi {w : World} (hc : X.calm = true := by rfl) (h : X.K = K := by rfl) (hw : X.w = w := by rfl) : CallR X (.type "set") (rSetLi K w) := by subst h; subst hw; exact cr_setLi hc
theorem kc_sortedSet {w : World} (hc : X.calm = true := by rfl) (hw : X.w = w := by rfl) : CallR X (.builtin "sorted") (rSortedSet w) := hw ▸ cr_sortedSet hc
theorem ki_list {tg l : Expr} {tl : TE} (hl : PE X l tl) (h : X.K = K := by rfl) : PI X tg l (iList K tl) := h ▸ pi_list hl
theorem ki_tup {tg l : Expr} {tl : TE} (hl : PE X l tl) (h : X.K = K := by rfl) : PI X tg l (iTup K tl) := h ▸ pi_tup hl
theorem ki_zip {e e2 : Expr} {ta : TA} {p pos tpos : Pos} {elts : List Expr} {kk : Nat} (hg : Gl X "zip") (hm : X.mg "zip" = none) (ha : PA X [e, e2] ta) (hs : starEach [e, e2] X.env = (false, eval e X.env) :: starEach [e2] X.env := by rfl)
    (hpl : (backTo pos (starEach [e2] X.env)).any (·.1) = false := by rfl) (h : X.K = K := by rfl) : PI X (.Tuple elts kk tpos) (.Call (.Name "zip" p) [e, e2] [] pos) (RZ.iZipA K ta) := h ▸ RZ.pi_zipA hg hm ha hs hpl
theorem ki_enum {e : Expr} {ta : TA} {p pos tpos : Pos} {elts : List Expr} {kk : Nat} (hg : Gl X "enumerate") (hm : X.mg "enumerate" = none) (ha : PA X [e] ta) (hs : starEach [e] X.env = [(false, eval e X.env)] := by rfl) (h : X.K = K := by rfl)
    : PI X (.Tuple elts kk tpos) (.Call (.Name "enumerate" p) [e] [] pos) (iEnum K ta) := h ▸ pi_enum hg hm ha hs
theorem kg_tup {pos : Pos} {es : List Expr} {k : Nat} {t : TGs} {n : Nat} (h : PGs X es t) (hc : X.calm = true := by rfl) (hn : (assignEach es X.env).length = n := by rfl) (hst : (assignEach es X.env).findIdx? (·.1) = none := by rfl) (hk : X.K = K := by rfl) : PG X (.Tuple es k pos) (gTup K n t) := hk ▸ pg_tup hc h hn hst
def tTru (K : PySem.W.Frag) (ta : TE) : TT := fun σ H Q => ta σ H fun x H' => ∃ k, TruV K x H' k ∧ Q k H'
theorem kt_truth {a : Expr} {ta : TE} (ha : PE X a ta) (he : ∀ whole, isTrue a X.env whole = (do let v ← whole; standAt a.pos; holding [v] (truthy v)) := by intro _; rfl) (h : X.K = K := by rfl) : PT X a (tTru K ta) := by subst h; exact pt_truth ha he
def rJoin (K : PySem.W.Frag) : V → List V → Hp → VK → Prop := fun x xs H Q => ∃ a p, ∃ ys : List Str, x = .str a ∧ xs = [.ref p] ∧ (SqL K H p (ys.map V.str) ∨ SqT K H p (ys.map V.str)) ∧ (ys.map (·.length)).sum + ys.length * a.length ≤ 16777216 ∧ Q (.str (Txt.join a ys)) H
theorem ke_join {o e : Expr} {to te : TE} {apos pos : Pos} (ho : PE X o to) (he : PE X e te) (hs : starEach [e] X.env = [(false, eval e X.env)] := by rfl) (hbase : attributeBase o "join" X.env (eval o X.env) = eval o X.env := by rfl) (hline : (apos.endLine == pos.line) = true := by rfl) (h : X.K = K := by rfl) :
    PE X (.Call (.Attribute o "join" apos) [e] [] pos) (tM1 (rJoin K) to te) := by subst h; exact pe_join ho he hs hbase hline
theorem pss_never {st : List Stmt} : PSs X st (fun _ _ _ => False) := ⟨fun _ _ _ _ _ _ h => h.elim⟩
theorem ps_never {st : Stmt} : PS X st (fun _ _ _ => False) := ⟨fun _ _ _ _ _ _ h => h.elim⟩
theorem pe_never {e : Expr} : PE X e (fun _ _ _ => False) := ⟨fun _ _ _ _ _ _ h => h.elim⟩
theorem tYes_at {σ : L2.St} {H : Hp} {Q : Bool → Hp → Prop} (h : Q true H) : tYes σ H Q := h
end
end Pot

namespace Pot
open PySem PySem.Spec PyProof.Rows L2
/-- built-in names that the module gives no other meaning -/
structure Txt (mg : Str → Option Value) : Prop where
  len : mg "len" = none
  divmod : mg "divmod" = none
  range : mg "range" = none
  sum : mg "sum" = none
  all : mg "all" = none
  any : mg "any" = none
  isinstance : mg "isinstance" = none
  str : mg "str" = none
  int : mg "int" = none
  list : mg "list" = none
  tuple : mg "tuple" = none
  bool : mg "bool" = none
  zip : mg "zip" = none
  set : mg "set" = none
  sorted : mg "sorted" = none
  enumerate : mg "enumerate" = none
  repr : mg "repr" = none
  min : mg "min" = none
  max : mg "max" = none
  abs : mg "abs" = none
/-- a def that may be called by its name: what it keeps, at which level -/
def Cl (P : Program) (w : World) (K : PySem.W.Frag) (mg : Str → Option Value) (base : Heap) (k : Nat) (x : Str) (sp : Sp) : Prop :=
  ∃ (f : Addr) (fd : FuncData) (ps : List Str), FnOk P w K mg base CX0 k f fd ps sp ∧ mg x = some (.ref f) ∧ PySem.W.keepIn K (.ref f) = true ∧ Binds K fd ps []
theorem pe_cl {X : Cx} {k j : Nat} {x : Str} {sp : Sp} {e : Expr} {es : List Expr} {t : TA} {p pos : Pos} (c : Cl X.prog X.w X.K X.mg X.base k x sp) (hr : Room j X.A) (hk : k ≤ j) (hg : Gl X x) (ha : PA X (e :: es) t) (hdb : (x == ("__debug__" : Str)) = false := by decide)
    (he : starEach (e :: es) X.env = (false, eval e X.env) :: starEach es X.env := by rfl) (hpl : (backTo pos (starEach es X.env)).any (·.1) = false := by rfl) : PE X (.Call (.Name x p) (e :: es) [] pos) (tCall sp [] E0 t) := by
  obtain ⟨f, fd, ps, G, hm, kp, b⟩ := c
  exact pe_call G (hr.mono hk) hg hm kp b .nil pass0 ha hdb he hpl
/-! ### the drawing state -/
def dS (c : Addr) (t : Int) : List (Key × V) := [(Sum.inr "cells", .ref c), (Sum.inr "turn", .int t)]
/-- at d stands a state of the law: its cells at c, its turn at most n -/
def StAt (H : Hp) (d c : Addr) (n : Nat) : Prop := d ≠ c ∧ ∃ (xs : List Int) (t : Int),
  H d = some (.dK (dS c t)) ∧ H c = some (.lst (xs.map V.int)) ∧ xs ≠ [] ∧ xs.length ≤ 63 ∧ 0 ≤ t ∧ t ≤ n
/-- all that was tracked stands, but d and c -/
def Kp (d c : Addr) (H H' : Hp) : Prop := ∀ b o, b ≠ d → b ≠ c → H b = some o → H' b = some o
theorem Kp.refl (d c : Addr) (H : Hp) : Kp d c H H := fun _ _ _ _ e => e
theorem Kp.trans {d c : Addr} {H H1 H2 : Hp} (a : Kp d c H H1) (b : Kp d c H1 H2) : Kp d c H H2 := fun x o h1 h2 e => b x o h1 h2 (a x o h1 h2 e)
theorem Kp.of {d c : Addr} {H H' : Hp} (s : Same H H') : Kp d c H H' := fun x o _ _ e => s x o e
theorem same_upd {H : Hp} {p : Addr} {o : HO} (h : H p = none) : Same H (upd H p o) := fun b x e => by
  rw [upd_ne (ne_of_none e h)]
  exact e
theorem same_put {H H' : Hp} {p : Addr} {o : HO} (s : Same H H') (h : H p = none) : Same H (upd H' p o) := fun b x e => by
  rw [upd_ne (ne_of_none e h)]
  exact s b x e
theorem kp_put {d c : Addr} {H H' : Hp} {p : Addr} {o : HO} (s : Kp d c H H') (h : H p = none) : Kp d c H (upd H' p o) := fun b x h1 h2 e => by
  rw [upd_ne (ne_of_none e h)]
  exact s b x h1 h2 e
theorem StAt.mono {H : Hp} {d c : Addr} {n m : Nat} (h : StAt H d c n) (k : n ≤ m) : StAt H d c m := by
  obtain ⟨h0, xs, t, h1, h2, h3, h4, h5, h6⟩ := h
  exact ⟨h0, xs, t, h1, h2, h3, h4, h5, by omega⟩
theorem StAt.same {H H' : Hp} {d c : Addr} {n : Nat} (h : StAt H d c n) (s : Same H H') : StAt H' d c n := by
  obtain ⟨h0, xs, t, h1, h2, h3, h4, h5, h6⟩ := h
  exact ⟨h0, xs, t, s _ _ h1, s _ _ h2, h3, h4, h5, h6⟩
theorem Kp.free {d c : Addr} {H H' : Hp} {n : Nat} {l : Addr} (k : Kp d c H H') (s : StAt H' d c n) (h : H' l = none) : H l = none := by
  obtain ⟨_, xs, t, h1, h2, _⟩ := s
  have n1 : l ≠ d := (ne_of_none h1 h).symm
  have n2 : l ≠ c := (ne_of_none h2 h).symm
  cases e : H l with
  | none => rfl
  | some o =>
    rw [k l o n1 n2 e] at h
    cases h
theorem StAt.ne1 {H : Hp} {d c : Addr} {n : Nat} {l : Addr} (s : StAt H d c n) (h : H l = none) : d ≠ l := by
  obtain ⟨_, xs, t, h1, h2, _⟩ := s
  exact ne_of_none h1 h
theorem StAt.ne2 {H : Hp} {d c : Addr} {n : Nat} {l : Addr} (s : StAt H d c n) (h : H l = none) : c ≠ l := by
  obtain ⟨_, xs, t, h1, h2, _⟩ := s
  exact ne_of_none h2 h
theorem StAt.put {H : Hp} {d c : Addr} {n : Nat} {l : Addr} {o : HO} (s : StAt H d c n) (n1 : d ≠ l) (n2 : c ≠ l) : StAt (upd H l o) d c n := by
  obtain ⟨h0, xs, t, h1, h2, h3, h4, h5, h6⟩ := s
  exact ⟨h0, xs, t, by rw [upd_ne n1]; exact h1, by rw [upd_ne n2]; exact h2, h3, h4, h5, h6⟩
theorem val_turn (c : Addr) (t : Int) : valV (dS c t) (Sum.inr "turn") = some (.int t) := by
  have e : ¬ ((Sum.inr (Str.ofString "cells") : Key) = Sum.inr (Str.ofString "turn")) := by decide +kernel
  unfold dS; rw [valV_neg e, valV_pos rfl]
theorem val_cells (c : Addr) (t : Int) : valV (dS c t) (Sum.inr "cells") = some (.ref c) := by
  unfold dS; rw [valV_pos rfl]
theorem put_turn (c : Addr) (t u : Int) : putK (dS c t) (Sum.inr "turn") (.int u) = dS c u := by
  have e : ¬ ((Sum.inr (Str.ofString "cells") : Key) = Sum.inr (Str.ofString "turn")) := by decide +kernel
  unfold putK dS
  simp [e]

theorem dget_turn {H : Hp} {d c : Addr} {t : Int} (h : H d = some (.dK (dS c t))) : DGet H d (.str "turn") (some (.int t)) := by
  rw [← val_turn c t]; exact DGet.k (k := Sum.inr "turn") h
theorem dget_cells {H : Hp} {d c : Addr} {t : Int} (h : H d = some (.dK (dS c t))) : DGet H d (.str "cells") (some (.ref c)) := by
  rw [← val_cells c t]; exact DGet.k (k := Sum.inr "cells") h
theorem dput_turn {H : Hp} {d c : Addr} {t : Int} (u : Int) (h : H d = some (.dK (dS c t))) : DPut H d (.str "turn") (.int u) (upd H d (.dK (dS c u))) := by
  rw [← put_turn c t u]; exact DPut.k (k := Sum.inr "turn") h (by show 2 < sizeLine; decide)
theorem ge18 (x : Int) : (decide ((10 : Int) ^ (18 : Int).toNat ≤ x) = true) ↔ 1000000000000000000 ≤ x := by
  have e : (10 : Int) ^ (18 : Int).toNat = 1000000000000000000 := by decide
  rw [e, decide_eq_true_eq]
theorem cmul_mod (a b : Int) {m : Int} (h0 : 0 < m) (h1 : m < 2 ^ 64) : CMul (a % m) b := by
  have p := Int.emod_nonneg a (show m ≠ 0 by omega)
  have q := Int.emod_lt_of_pos a h0
  exact .inl ⟨by omega, by omega⟩
theorem mod_at {xs : List Int} {u : Int} (hx : xs ≠ []) : ∃ (j : Nat) (y : Int), u % ((xs.map V.int).length : Int) = (j : Int) ∧ j < xs.length ∧ xs[j]? = some y := by
  have h0 : 0 < xs.length := List.length_pos_iff.mpr hx
  rw [List.length_map]
  have a := Int.emod_nonneg u (show (xs.length : Int) ≠ 0 by omega)
  have b := Int.emod_lt_of_pos u (show (0 : Int) < (xs.length : Int) by omega)
  refine ⟨(u % (xs.length : Int)).toNat, xs[(u % (xs.length : Int)).toNat]'(by omega), by omega, by omega, ?_⟩
  exact List.getElem?_eq_getElem _

section
variable {K : PySem.W.Frag}
theorem cut63 {xs : List V} (h : xs.length ≤ 63) : cutV xs none (some 63) = xs := by
  unfold cutV
  rw [HT.sIx_none, show HT.sIx xs.length xs.length (some 63) = min 63 xs.length from HT.sIx_nat xs.length xs.length 63, Nat.min_eq_right h]
  simp
theorem dp_ints {H : Hp} (ns : List Int) : DpAll K H (ns.map V.int) (ns.map PyData.int) := by
  induction ns with
  | nil => exact .nil
  | cons n r ih => exact .cons (.int n) ih
theorem same_tup {H H' : Hp} {a : Addr} {xs : List V} (e : Same H H') (h : SqT K H a xs) : SqT K H' a xs := by
  rcases h with (h | ⟨o, h⟩) | h
  · exact .inl (.inl (e _ _ h))
  · exact .inl (.inr ⟨o, e _ _ h⟩)
  · exact .inr h
mutual
theorem dp_same {H H' : Hp} (s : Same H H') : ∀ {v : V} {d : PyData}, Dp K H v d → Dp K H' v d
  | _, _, .non => .non
  | _, _, .bl b => .bl b
  | _, _, .int i => .int i
  | _, _, .str x => .str x
  | _, _, .lst h a => .lst (s.seq h) (dpAll_same s a)
  | _, _, .tup h a => .tup (same_tup s h) (dpAll_same s a)
theorem dpAll_same {H H' : Hp} (s : Same H H') : ∀ {vs : List V} {ds : List PyData}, DpAll K H vs ds → DpAll K H' vs ds
  | _, _, .nil => .nil
  | _, _, .cons h t => .cons (dp_same s h) (dpAll_same s t)
end
theorem dpAll_len {H : Hp} : ∀ {vs : List V} {ds : List PyData}, DpAll K H vs ds → vs.length = ds.length
  | _, _, .nil => rfl
  | _, _, .cons _ t => by rw [List.length_cons, List.length_cons, dpAll_len t]
theorem dpAll_at {H : Hp} : ∀ {vs : List V} {ds : List PyData} {i : Nat} {v : V}, DpAll K H vs ds → vs[i]? = some v → ∃ d, ds[i]? = some d ∧ Dp K H v d
  | _, _, _, _, .nil, h => by simp at h
  | _, _, 0, _, .cons h _, e => ⟨_, rfl, by cases e; exact h⟩
  | _, _, i + 1, _, .cons _ t, e => dpAll_at (i := i) t e
theorem depth_at : ∀ {ds : List PyData} {i : Nat} {d : PyData}, ds[i]? = some d → d.depth ≤ PyData.depthAll ds
  | [], _, _, h => by simp at h
  | x :: r, 0, d, h => by cases h; unfold PyData.depthAll; exact Nat.le_max_left ..
  | x :: r, i + 1, d, h => by
    have := depth_at (ds := r) (i := i) (d := d) h
    unfold PyData.depthAll
    exact Nat.le_trans this (Nat.le_max_right ..)
theorem tyx_list {H : Hp} {a : Addr} {xs : List V} (h : SqL K H a xs) : TyX K H (.ref a) (.type "list") := by
  rcases h with (h | ⟨o, h⟩) | ⟨o, its, n, h1, h2, _⟩
  · exact .base (.lst h)
  · exact .base (.frz h)
  · exact .kList h1 h2
theorem tyx_tup {H : Hp} {a : Addr} {xs : List V} (h : SqT K H a xs) : TyX K H (.ref a) (.type "tuple") := by
  rcases h with (h | ⟨o, h⟩) | ⟨o, its, n, h1, h2, _⟩
  · exact .base (.tup h)
  · exact .fTuple h
  · exact .kTuple h1 h2
theorem walk_zipT {a b : Addr} {xs ys : List V} {n : Nat} (hn : n = min xs.length ys.length) : Walk (RZ.ItzT K a b) n (fun H => SqT K H a xs ∧ SqT K H b ys) (YPair (fun i => xs[i]?) (fun i => ys[i]?)) := by
  subst hn
  refine ⟨fun i _ hi q => ?_, fun _ q => ⟨xs, ys, q.1, q.2, by omega⟩, fun i H v H' _ q y => ?_⟩
  · exact ⟨xs, ys, xs[i]'(by omega), ys[i]'(by omega), q.1, q.2, List.getElem?_eq_getElem _, List.getElem?_eq_getElem _⟩
  · obtain ⟨T, x, z, e1, e2, e3, e4, e5⟩ := y
    exact ⟨T, x, z, e1, e2, e3, e4 xs q.1, e5 ys q.2⟩
/-- the longest list within -/
def widAll : List PyData → Nat
  | [] => 0
  | x :: xs => max (wid x) (widAll xs)
where wid : PyData → Nat
  | .list xs => max xs.length (widAll xs)
  | .tuple xs => max xs.length (widAll xs)
  | _ => 0
theorem wid_at : ∀ {ds : List PyData} {i : Nat} {d : PyData}, ds[i]? = some d → widAll.wid d ≤ widAll ds
  | [], _, _, h => by simp at h
  | x :: r, 0, d, h => by cases h; unfold widAll; exact Nat.le_max_left ..
  | x :: r, i + 1, d, h => by
    have := wid_at (ds := r) (i := i) (d := d) h
    unfold widAll
    exact Nat.le_trans this (Nat.le_max_right ..)
theorem depth_ints (ns : List Int) : (PyData.list (ns.map PyData.int)).depth = 1 := by
  have h : ∀ l : List Int, PyData.depthAll (l.map PyData.int) = 0 := by
    intro l
    induction l with
    | nil => rfl
    | cons x r ih =>
      show max 0 (PyData.depthAll (r.map PyData.int)) = 0
      rw [ih]
      rfl
  show PyData.depthAll (ns.map PyData.int) + 1 = 1
  rw [h]
theorem wid_ints (ns : List Int) : widAll.wid (PyData.list (ns.map PyData.int)) = ns.length := by
  have h : ∀ l : List Int, widAll (l.map PyData.int) = 0 := by
    intro l
    induction l with
    | nil => rfl
    | cons x r ih =>
      show max 0 (widAll (r.map PyData.int)) = 0
      rw [ih]
      rfl
  show max (ns.map PyData.int).length (widAll (ns.map PyData.int)) = ns.length
  rw [h, List.length_map, Nat.max_zero]
theorem flat_ints (ns : List Int) : (ns.map V.int).all flatV = true := by
  rw [List.all_eq_true]
  intro x hx
  obtain ⟨k, _, rfl⟩ := List.mem_map.mp hx
  rfl
end
section
variable {P : Program} {w : World} {K : PySem.W.Frag} {mg : Str → Option Value} {base : Heap}
/-- a def with values that may be left out -/
abbrev FunV (K : PySem.W.Frag) (x : Str) (st : Stmt) (dvs : List V) (f : Addr) (fd : FuncData) : Prop := FunD K x x (defArgs st) (defBody st) (defScope st) dvs [] f fd
theorem okD {x : Str} {st : Stmt} {dvs : List V} {f : Addr} {fd : FuncData} {N ps : List Str} {k : Nat} {sp : Sp} (F : FunV K x st dvs f fd) (S : FnScope N ps (defScope st)) (len : ∀ vs H Q E, sp vs H Q E → vs.length = ps.length)
    (body : ∀ (cdv : Value) (A : Around) (outer : List Env) (s : Shared) (H : Hp) (vs : List V) (Q : VK) (E : XK), Room k (A.deeper (envOfC x (defScope st) s.heap.objs.size f cdv)) → sp vs H Q E →
      ∃ t, PSs (cxOf CX0 P w K mg base N x (defScope st) f cdv A outer s H E).nox (defBody st) t ∧ t { nx := fun _ H' => Q .non H', rt := Q } (start N vs) H) : FnOk P w K mg base CX0 (k + 1) f fd ps sp :=
  FunD.ok F S len fun cdv A outer s H vs Q E hr h => by
    obtain ⟨t, ht, hq⟩ := body cdv A outer s H vs Q E hr h
    exact ⟨t, ht.nox, hq⟩
/-- a def that may be called by its name, the values ds being left out -/
def ClD (P : Program) (w : World) (K : PySem.W.Frag) (mg : Str → Option Value) (base : Heap) (k : Nat) (x : Str) (ds : List V) (sp : Sp) : Prop :=
  ∃ (f : Addr) (fd : FuncData) (ps : List Str) (dus : List Value), FnOk P w K mg base CX0 k f fd ps sp ∧ mg x = some (.ref f) ∧ PySem.W.keepIn K (.ref f) = true ∧ Binds K fd ps dus ∧ Vals ds dus
theorem pe_cd {X : Cx} {k j : Nat} {x : Str} {ds : List V} {sp : Sp} {e : Expr} {es : List Expr} {t : TA} {p pos : Pos} (c : ClD X.prog X.w X.K X.mg X.base k x ds sp) (hr : Room j X.A) (hk : k ≤ j) (hg : Gl X x) (ha : PA X (e :: es) t) (hdb : (x == ("__debug__" : Str)) = false := by decide)
    (he : starEach (e :: es) X.env = (false, eval e X.env) :: starEach es X.env := by rfl) (hpl : (backTo pos (starEach es X.env)).any (·.1) = false := by rfl) : PE X (.Call (.Name x p) (e :: es) [] pos) (tCall sp ds E0 t) := by
  obtain ⟨f, fd, ps, dus, G, hm, kp, b, dv⟩ := c
  exact pe_call G (hr.mono hk) hg hm kp b dv pass0 ha hdb he hpl
theorem Cl.mono {k j : Nat} {x : Str} {sp : Sp} (c : Cl P w K mg base k x sp) (h : k ≤ j) : Cl P w K mg base j x sp := by
  obtain ⟨f, fd, ps, G, r⟩ := c
  exact ⟨f, fd, ps, G.mono h, r⟩
end
end Pot

namespace Pot
open PySem PySem.Spec PyProof.Rows L2
/-! ### a box of three numbers from which is drawn, and all that stands beside it -/
def Bx (H : Hp) (b : Addr) : Prop := ∃ x y z : Int, H b = some (.lst [.int x, .int y, .int z])
/-- the heap without some -/
def off (H : Hp) (S : List Addr) : Hp := fun x => if x ∈ S then none else H x
theorem off_in {H : Hp} {S : List Addr} {x : Addr} (h : x ∈ S) : off H S x = none := if_pos h
theorem off_out {H : Hp} {S : List Addr} {x : Addr} (h : x ∉ S) : off H S x = H x := if_neg h
theorem off_mem {H : Hp} {S : List Addr} {x : Addr} {o : HO} (h : off H S x = some o) : x ∉ S := fun e => by rw [off_in e] at h; cases h
theorem off_sub {H : Hp} {S : List Addr} : Same (off H S) H := fun x o h => by
  have n := off_mem h
  rw [off_out n] at h; exact h
theorem off_mono {H : Hp} {S T : List Addr} (h : ∀ x ∈ T, x ∈ S) : Same (off H S) (off H T) := fun x o e => by
  have n := off_mem e
  rw [off_out n] at e
  rw [off_out fun z => n (h x z)]; exact e
/-- what stands beside S stands -/
abbrev Sm (S : List Addr) (H H' : Hp) : Prop := Same (off H S) (off H' S)
theorem sm_mono {H H' : Hp} {S T : List Addr} (h : ∀ x ∈ T, x ∈ S) (s : Sm T H H') : Sm S H H' := fun x o e => by
  have n := off_mem e
  rw [off_out n] at e ⊢
  have n2 : x ∉ T := fun z => n (h x z)
  have := s x o (by rw [off_out n2]; exact e)
  rw [off_out n2] at this; exact this
theorem sm_one {H H' : Hp} {S : List Addr} {b : Addr} (h : b ∈ S) (s : Sm [b] H H') : Sm S H H' := sm_mono (fun x hx => by rw [List.mem_singleton.mp hx]; exact h) s
theorem sm_of {H H' : Hp} {S : List Addr} (s : Same H H') : Sm S H H' := fun x o h => by
  have n := off_mem h
  rw [off_out n] at h ⊢; exact s x o h
theorem sm_put {H : Hp} {S : List Addr} {p : Addr} {o : HO} (h : H p = none) : Sm S H (upd H p o) := sm_of (same_upd h)
theorem sm_wr {H : Hp} {S : List Addr} {p : Addr} {o : HO} (h : p ∈ S) : Sm S H (upd H p o) := fun x u e => by
  have n := off_mem e
  rw [off_out n] at e ⊢
  have ne : x ≠ p := fun z => n (by rw [z]; exact h)
  rw [upd_ne ne]; exact e
theorem at_off {H : Hp} {S : List Addr} {x : Addr} {o : HO} (h : off H S x = some o) : H x = some o := off_sub x o h
theorem Bx.bx {H : Hp} {b : Addr} (B : Bx H b) : Bx H b := B
theorem Bx.ne {H : Hp} {b p : Addr} (B : Bx H b) (h : H p = none) : p ≠ b := fun e => by
  obtain ⟨x, y, z, B⟩ := B
  rw [e, B] at h; cases h
theorem Bx.same {H H' : Hp} {b : Addr} (B : Bx H b) (s : Same H H') : Bx H' b := by
  obtain ⟨x, y, z, B⟩ := B
  exact ⟨x, y, z, s _ _ B⟩
theorem Bx.put {H : Hp} {b p : Addr} {o : HO} (B : Bx H b) (h : H p = none) : Bx (upd H p o) b := B.same (same_upd h)
theorem Bx.wr {H : Hp} {b p : Addr} {o : HO} (B : Bx H b) (h : p ≠ b) : Bx (upd H p o) b := by
  obtain ⟨x, y, z, B⟩ := B
  exact ⟨x, y, z, by rw [upd_ne h.symm]; exact B⟩
/-- all of S are there -/
def Live (S : List Addr) (H : Hp) : Prop := ∀ s ∈ S, H s ≠ none
theorem Live.same {S : List Addr} {H H' : Hp} (L : Live S H) (s : Same H H') : Live S H' := fun x hx e => by
  cases h : H x with
  | none => exact L x hx h
  | some o => rw [s x o h] at e; cases e
theorem Live.box {S : List Addr} {H H' : Hp} {b : Addr} (L : Live S H) (B : Bx H' b) (s : Sm [b] H H') : Live S H' := fun x hx e => by
  by_cases hb : x = b
  · obtain ⟨_, _, _, B⟩ := B
    rw [hb, B] at e; cases e
  · have n : x ∉ [b] := fun z => hb (List.mem_singleton.mp z)
    cases h : H x with
    | none => exact L x hx h
    | some o =>
      have := s x o (by rw [off_out n]; exact h)
      rw [off_out n, e] at this; cases this
theorem Live.put {S : List Addr} {H : Hp} {p : Addr} {o : HO} (L : Live S H) (h : H p = none) : Live S (upd H p o) := L.same (same_upd h)
theorem Live.wr {S : List Addr} {H : Hp} {p : Addr} {o : HO} (L : Live S H) : Live S (upd H p o) := fun x hx e => by
  by_cases hp : x = p
  · rw [hp, upd_same] at e; cases e
  · rw [upd_ne hp] at e; exact L x hx e
theorem Live.one {H : Hp} {b : Addr} (B : Bx H b) : Live [b] H := fun x hx e => by
  obtain ⟨_, _, _, B⟩ := B
  rw [List.mem_singleton.mp hx, B] at e; cases e
theorem Live.out {S : List Addr} {H : Hp} {p : Addr} (L : Live S H) (h : H p = none) : p ∉ S := fun z => L p z h
theorem Live.cons {S : List Addr} {H : Hp} {p : Addr} {o : HO} (L : Live S H) (h : H p = some o) : Live (p :: S) H := fun x hx e => by
  rcases List.mem_cons.mp hx with z | z
  · rw [z, h] at e; cases e
  · exact L x z e
theorem off_new {H : Hp} {S : List Addr} {p : Addr} {o : HO} (L : Live S H) (h : H p = none) : off (upd H p o) S p = some o := by
  rw [off_out (L.out h)]; exact upd_same
theorem off_upd {H : Hp} {S : List Addr} {p : Addr} {o : HO} (h : p ∉ S) : off (upd H p o) S p = some o := by
  rw [off_out h]; exact upd_same
section
variable {K : PySem.W.Frag}
theorem sq_off {H : Hp} {S : List Addr} {a : Addr} {xs : List V} (h : SqL K (off H S) a xs) : SqL K H a xs := off_sub.seq h
theorem sqt_off {H : Hp} {S : List Addr} {a : Addr} {xs : List V} (h : SqT K (off H S) a xs) : SqT K H a xs := same_tup off_sub h
theorem dp_off {H : Hp} {S : List Addr} {v : V} {d : PyData} (h : Dp K (off H S) v d) : Dp K H v d := dp_same off_sub h
/-- a new list is none of S, beside which the rest stands as it was -/
theorem off_fresh {H : Hp} {S : List Addr} {p : Addr} {o : HO} (h : H p = none) : off (upd H p o) (p :: S) = off H S := by
  funext x; unfold off
  by_cases e : x = p
  · subst e
    rw [if_pos List.mem_cons_self, h]
    split <;> rfl
  · have : (x ∈ p :: S) ↔ x ∈ S := by rw [List.mem_cons]; exact ⟨fun z => z.resolve_left e, .inr⟩
    by_cases m : x ∈ S
    · rw [if_pos m, if_pos (this.mpr m)]
    · rw [if_neg m, if_neg fun z => m (this.mp z), upd_ne e]
end
/-! ### what is made of numbers, texts, truths, None, lists and tuples -/
/-- numbers within m, texts of at most 2000 signs -/
def gdAll (m : Nat) : List PyData → Prop
  | [] => True
  | x :: xs => gd m x ∧ gdAll m xs
where gd (m : Nat) : PyData → Prop
  | .none => True
  | .bool _ => True
  | .int i => i.natAbs ≤ m
  | .str x => x.length ≤ 2000 ∧ ∀ c ∈ x.cps.toList, c < 1114112
  | .list xs => gdAll m xs
  | .tuple xs => gdAll m xs
  | .dict _ => False
abbrev gd (m : Nat) (d : PyData) : Prop := gdAll.gd m d
theorem gdAll_iff {m : Nat} : ∀ {ds : List PyData}, gdAll m ds ↔ ∀ d ∈ ds, gd m d
  | [] => ⟨fun _ _ h => (List.not_mem_nil h).elim, fun _ => trivial⟩
  | x :: xs => by
    constructor
    · intro h d hd
      rcases List.mem_cons.mp hd with e | e
      · rw [e]; exact h.1
      · exact gdAll_iff.mp h.2 d e
    · intro h
      exact ⟨h x List.mem_cons_self, gdAll_iff.mpr fun d hd => h d (List.mem_cons_of_mem _ hd)⟩
mutual
theorem gd_mono {m n : Nat} (h : m ≤ n) : ∀ d : PyData, gd m d → gd n d
  | .none, _ => trivial
  | .bool _, _ => trivial
  | .int i, g => Nat.le_trans g h
  | .str _, g => g
  | .list xs, g => gdAll_mono h xs g
  | .tuple xs, g => gdAll_mono h xs g
  | .dict _, g => g.elim
theorem gdAll_mono {m n : Nat} (h : m ≤ n) : ∀ ds : List PyData, gdAll m ds → gdAll n ds
  | [], _ => trivial
  | x :: xs, g => ⟨gd_mono h x g.1, gdAll_mono h xs g.2⟩
end
theorem log_small' {i : Int} (h : i.natAbs ≤ 2000000) : i.natAbs.log2 < 1920 := by
  by_cases z : i.natAbs = 0
  · rw [z]; decide
  · have := (Nat.log2_lt z).mpr (show i.natAbs < 2 ^ 21 from Nat.lt_of_le_of_lt h (by decide))
    omega
mutual
theorem gd_fine {m : Nat} (h : m ≤ 2000000) : ∀ d : PyData, gd m d → fineAll.fine d
  | .none, _ => trivial
  | .bool _, _ => trivial
  | .int i, g => log_small' (Nat.le_trans g h)
  | .str _, g => fun c hc => Nat.lt_trans (g.2 c hc) (by decide)
  | .list xs, g => gdAll_fine h xs g
  | .tuple xs, g => gdAll_fine h xs g
  | .dict _, g => g.elim
theorem gdAll_fine {m : Nat} (h : m ≤ 2000000) : ∀ ds : List PyData, gdAll m ds → fineAll ds
  | [], _ => trivial
  | x :: xs, g => ⟨gd_fine h x g.1, gdAll_fine h xs g.2⟩
end
theorem costAll_app (xs ys : List PyData) : costAll (xs ++ ys) = costAll xs + costAll ys := by
  induction xs with
  | nil => simp [costAll]
  | cons x xs ih => simp only [List.cons_append, costAll, ih]; omega
theorem cost_mem {ds : List PyData} {d : PyData} (h : d ∈ ds) : costAll.cost d + 2 ≤ costAll ds := by
  induction ds with
  | nil => exact (List.not_mem_nil h).elim
  | cons x xs ih =>
    show _ ≤ costAll.cost x + 2 + costAll xs
    rcases List.mem_cons.mp h with e | e
    · rw [e]; omega
    · have := ih e; omega
theorem len_cost : ∀ ds : List PyData, 2 * ds.length ≤ costAll ds
  | [] => Nat.le_refl _
  | x :: xs => by
    have := len_cost xs
    show 2 * (xs.length + 1) ≤ costAll.cost x + 2 + costAll xs
    omega
theorem depthAll_iff {D : Nat} : ∀ {ds : List PyData}, PyData.depthAll ds ≤ D ↔ ∀ d ∈ ds, d.depth ≤ D
  | [] => ⟨fun _ _ h => (List.not_mem_nil h).elim, fun _ => Nat.zero_le _⟩
  | x :: xs => by
    show max x.depth (PyData.depthAll xs) ≤ D ↔ _
    rw [Nat.max_le, depthAll_iff (ds := xs)]
    constructor
    · rintro ⟨h1, h2⟩ d hd
      rcases List.mem_cons.mp hd with e | e
      · rw [e]; exact h1
      · exact h2 d e
    · intro h
      exact ⟨h x List.mem_cons_self, fun d hd => h d (List.mem_cons_of_mem _ hd)⟩
/-- rows of parts: of numbers within m, their cost, how deep and how wide each -/
structure Ths (m C D W : Nat) (ds : List PyData) : Prop where
  g : ∀ d ∈ ds, gd m d
  c : costAll ds ≤ C
  d : ∀ d ∈ ds, d.depth ≤ D
  w : ∀ d ∈ ds, widAll.wid d ≤ W
/-- a thing: of numbers within m, its cost, how deep, how wide -/
structure Th (m C D W : Nat) (dd : PyData) : Prop where
  g : gd m dd
  c : costAll.cost dd ≤ C
  d : dd.depth ≤ D
  w : widAll.wid dd ≤ W
theorem widAll_iff {D : Nat} : ∀ {ds : List PyData}, widAll ds ≤ D ↔ ∀ d ∈ ds, widAll.wid d ≤ D
  | [] => ⟨fun _ _ h => (List.not_mem_nil h).elim, fun _ => Nat.zero_le _⟩
  | x :: xs => by
    show max (widAll.wid x) (widAll xs) ≤ D ↔ _
    rw [Nat.max_le, widAll_iff (ds := xs)]
    constructor
    · rintro ⟨h1, h2⟩ d hd
      rcases List.mem_cons.mp hd with e | e
      · rw [e]; exact h1
      · exact h2 d e
    · intro h
      exact ⟨h x List.mem_cons_self, fun d hd => h d (List.mem_cons_of_mem _ hd)⟩
section
variable {m n C E D F W U : Nat} {d x : PyData} {ds xs ys : List PyData}
theorem Th.mono (h : Th m C D W d) (a : m ≤ n) (b : C ≤ E) (c : D ≤ F) (e : W ≤ U) : Th n E F U d := ⟨gd_mono a d h.g, Nat.le_trans h.c b, Nat.le_trans h.d c, Nat.le_trans h.w e⟩
theorem Ths.mono (h : Ths m C D W ds) (a : m ≤ n) (b : C ≤ E) (c : D ≤ F) (e : W ≤ U) : Ths n E F U ds := ⟨fun x hx => gd_mono a x (h.g x hx), Nat.le_trans h.c b, fun x hx => Nat.le_trans (h.d x hx) c, fun x hx => Nat.le_trans (h.w x hx) e⟩
theorem Ths.app (h : Ths m C D W xs) (k : Ths m E D W ys) : Ths m (C + E) D W (xs ++ ys) :=
  ⟨fun d hd => (List.mem_append.mp hd).elim (h.g d) (k.g d), by rw [costAll_app]; exact Nat.add_le_add h.c k.c, fun d hd => (List.mem_append.mp hd).elim (h.d d) (k.d d), fun d hd => (List.mem_append.mp hd).elim (h.w d) (k.w d)⟩
theorem Ths.nil : Ths m 0 D W [] := ⟨fun _ h => (List.not_mem_nil h).elim, Nat.le_refl _, fun _ h => (List.not_mem_nil h).elim, fun _ h => (List.not_mem_nil h).elim⟩
theorem Ths.one (h : Th m C D W x) : Ths m (C + 2) D W [x] :=
  ⟨fun d hd => by rw [List.mem_singleton.mp hd]; exact h.g, by show costAll.cost x + 2 + 0 ≤ _; have := h.c; omega, fun d hd => by rw [List.mem_singleton.mp hd]; exact h.d, fun d hd => by rw [List.mem_singleton.mp hd]; exact h.w⟩
theorem Ths.mem (h : Ths m C D W ds) (e : d ∈ ds) : Th m C D W d := ⟨h.g d e, by have := cost_mem e; have := h.c; omega, h.d d e, h.w d e⟩
theorem Ths.len (h : Ths m C D W ds) : 2 * ds.length ≤ C := Nat.le_trans (len_cost ds) h.c
theorem Ths.list (h : Ths m C D W ds) (l : ds.length ≤ W) : Th m (C + 3) (D + 1) W (.list ds) :=
  ⟨gdAll_iff.mpr h.g, by show costAll ds + 3 ≤ _; have := h.c; omega, by show PyData.depthAll ds + 1 ≤ _; have := depthAll_iff.mpr h.d; omega, by show max ds.length (widAll ds) ≤ W; exact Nat.max_le.mpr ⟨l, widAll_iff.mpr h.w⟩⟩
theorem Ths.tuple (h : Ths m C D W ds) (l : ds.length ≤ W) : Th m (C + 3) (D + 1) W (.tuple ds) :=
  ⟨gdAll_iff.mpr h.g, by show costAll ds + 3 ≤ _; have := h.c; omega, by show PyData.depthAll ds + 1 ≤ _; have := depthAll_iff.mpr h.d; omega, by show max ds.length (widAll ds) ≤ W; exact Nat.max_le.mpr ⟨l, widAll_iff.mpr h.w⟩⟩
theorem Th.ofList (h : Th m C D W (.list ds)) : Ths m (C - 3) (D - 1) W ds ∧ ds.length ≤ W ∧ 3 ≤ C ∧ 1 ≤ D := by
  have h1 : costAll ds + 3 ≤ C := h.c
  have h2 : PyData.depthAll ds + 1 ≤ D := h.d
  have h3 : max ds.length (widAll ds) ≤ W := h.w
  exact ⟨⟨gdAll_iff.mp h.g, by omega, depthAll_iff.mp (by omega), widAll_iff.mp (Nat.le_trans (Nat.le_max_right ..) h3)⟩, Nat.le_trans (Nat.le_max_left ..) h3, by omega, by omega⟩
theorem Th.ofTuple (h : Th m C D W (.tuple ds)) : Ths m (C - 3) (D - 1) W ds ∧ ds.length ≤ W ∧ 3 ≤ C ∧ 1 ≤ D := by
  have h1 : costAll ds + 3 ≤ C := h.c
  have h2 : PyData.depthAll ds + 1 ≤ D := h.d
  have h3 : max ds.length (widAll ds) ≤ W := h.w
  exact ⟨⟨gdAll_iff.mp h.g, by omega, depthAll_iff.mp (by omega), widAll_iff.mp (Nat.le_trans (Nat.le_max_right ..) h3)⟩, Nat.le_trans (Nat.le_max_left ..) h3, by omega, by omega⟩
theorem costAll_take (n : Nat) (ds : List PyData) : costAll (ds.take n) ≤ costAll ds := by
  have := costAll_app (ds.take n) (ds.drop n)
  rw [List.take_append_drop] at this; omega
theorem costAll_drop (n : Nat) (ds : List PyData) : costAll (ds.drop n) ≤ costAll ds := by
  have := costAll_app (ds.take n) (ds.drop n)
  rw [List.take_append_drop] at this; omega
theorem costAll_rev : ∀ ds : List PyData, costAll ds.reverse = costAll ds
  | [] => rfl
  | x :: xs => by rw [List.reverse_cons, costAll_app, costAll_rev xs]; show _ + (costAll.cost x + 2 + 0) = costAll.cost x + 2 + costAll xs; omega
theorem Ths.sub (h : Ths m C D W ds) (s : ∀ x ∈ xs, x ∈ ds) (c : costAll xs ≤ C) : Ths m C D W xs := ⟨fun d hd => h.g d (s d hd), c, fun d hd => h.d d (s d hd), fun d hd => h.w d (s d hd)⟩
theorem Ths.take (h : Ths m C D W ds) (n : Nat) : Ths m C D W (ds.take n) := h.sub (fun d hd => List.mem_of_mem_take hd) (Nat.le_trans (costAll_take n ds) h.c)
theorem Ths.drop (h : Ths m C D W ds) (n : Nat) : Ths m C D W (ds.drop n) := h.sub (fun d hd => List.mem_of_mem_drop hd) (Nat.le_trans (costAll_drop n ds) h.c)
theorem Ths.rev (h : Ths m C D W ds) : Ths m C D W ds.reverse := h.sub (fun d hd => List.mem_reverse.mp hd) (by rw [costAll_rev]; exact h.c)
theorem costAll_set : ∀ (ds : List PyData) (i : Nat) (x : PyData), costAll (ds.set i x) ≤ costAll ds + (costAll.cost x + 2)
  | [], _, _ => Nat.zero_le _
  | y :: ys, 0, x => by show costAll.cost x + 2 + costAll ys ≤ costAll.cost y + 2 + costAll ys + _; omega
  | y :: ys, i + 1, x => by
    have := costAll_set ys i x
    show costAll.cost y + 2 + costAll (ys.set i x) ≤ costAll.cost y + 2 + costAll ys + _
    omega
theorem Ths.set {i : Nat} (h : Ths m C D W ds) (k : Th m E D W x) : Ths m (C + E + 2) D W (ds.set i x) :=
  ⟨fun d hd => (List.mem_or_eq_of_mem_set hd).elim (h.g d) fun e => by rw [e]; exact k.g, Nat.le_trans (costAll_set ds i x) (by have := h.c; have := k.c; omega), fun d hd => (List.mem_or_eq_of_mem_set hd).elim (h.d d) fun e => by rw [e]; exact k.d, fun d hd => (List.mem_or_eq_of_mem_set hd).elim (h.w d) fun e => by rw [e]; exact k.w⟩
end
section
variable {K : PySem.W.Frag} {H : Hp}
theorem dpAll_app' : ∀ {xs ys : List V} {ds es : List PyData}, DpAll K H xs ds → DpAll K H ys es → DpAll K H (xs ++ ys) (ds ++ es)
  | _, _, _, _, .nil, h => h
  | _, _, _, _, .cons h t, h2 => .cons h (dpAll_app' t h2)
theorem dpAll_take : ∀ {xs : List V} {ds : List PyData} (n : Nat), DpAll K H xs ds → DpAll K H (xs.take n) (ds.take n)
  | _, _, 0, _ => .nil
  | _, _, _ + 1, .nil => .nil
  | _, _, n + 1, .cons h t => .cons h (dpAll_take n t)
theorem dpAll_drop : ∀ {xs : List V} {ds : List PyData} (n : Nat), DpAll K H xs ds → DpAll K H (xs.drop n) (ds.drop n)
  | _, _, 0, h => h
  | _, _, _ + 1, .nil => .nil
  | _, _, n + 1, .cons _ t => dpAll_drop n t
theorem dpAll_rev : ∀ {xs : List V} {ds : List PyData}, DpAll K H xs ds → DpAll K H xs.reverse ds.reverse
  | _, _, .nil => .nil
  | _, _, .cons h t => by rw [List.reverse_cons, List.reverse_cons]; exact dpAll_app' (dpAll_rev t) (.cons h .nil)
theorem dpAll_set : ∀ {xs : List V} {ds : List PyData} {i : Nat} {v : V} {d : PyData}, DpAll K H xs ds → Dp K H v d → DpAll K H (xs.set i v) (ds.set i d)
  | _, _, _, _, _, .nil, _ => .nil
  | _, _, 0, _, _, .cons _ t, k => .cons k t
  | _, _, _ + 1, _, _, .cons h t, k => .cons h (dpAll_set t k)
/-- a slice of a row of parts -/
theorem dp_cut {xs : List V} {ds : List PyData} {lo hi : Option Int} {m C D W : Nat} (h : DpAll K H xs ds) (t : Ths m C D W ds) : ∃ es, DpAll K H (cutV xs lo hi) es ∧ Ths m C D W es ∧ es.length ≤ ds.length := by
  unfold cutV
  exact ⟨_, dpAll_take _ (dpAll_drop _ h), (t.drop _).take _, by rw [List.length_take, List.length_drop]; omega⟩
theorem dp_lst' {v : V} {ds : List PyData} (h : Dp K H v (.list ds)) : ∃ a xs, v = .ref a ∧ SqL K H a xs ∧ DpAll K H xs ds := by
  cases h with
  | lst h a => exact ⟨_, _, rfl, h, a⟩
end
end Pot
namespace Pot
open PySem PySem.Spec PyProof.Rows L2
theorem sm_at {H H' : Hp} {S : List Addr} {x : Addr} {o : HO} (s : Sm S H H') (n : x ∉ S) (h : H x = some o) : H' x = some o := by
  have := s x o (by rw [off_out n]; exact h)
  rw [off_out n] at this; exact this
theorem sm1_at {H H' : Hp} {b x : Addr} {o : HO} (s : Sm [b] H H') (n : x ≠ b) (h : H x = some o) : H' x = some o := sm_at s (fun z => n (List.mem_singleton.mp z)) h
theorem smp {H H' : Hp} {S : List Addr} {p : Addr} {o : HO} (s : Sm S H H') (h : H p = none) : Sm S H (upd H' p o) := fun x u e => by
  have n := off_mem e
  have ne : x ≠ p := fun z => by
    rw [off_out n, z, h] at e; cases e
  have := s x u e
  rw [off_out n] at this ⊢
  rw [upd_ne ne]; exact this
theorem sm_free {H H' : Hp} {b l : Addr} (s : Sm [b] H H') (B : Bx H' b) (h : H' l = none) : H l = none := by
  have nb := B.ne h
  have n : l ∉ [b] := fun z => nb (List.mem_singleton.mp z)
  cases e : H l with
  | none => rfl
  | some o => rw [sm_at s n e] at h; cases h
theorem cut_map {α : Type} (f : α → V) (ns : List α) (lo hi : Option Int) : cutV (ns.map f) lo hi = ((ns.drop (HT.sIx ns.length 0 lo)).take (HT.sIx ns.length ns.length hi - HT.sIx ns.length 0 lo)).map f := by
  unfold cutV
  rw [List.length_map, List.map_take, List.map_drop]
theorem cut_head {xs : List V} {k : Nat} : cutV xs none (some (k : Int)) = xs.take k := by
  unfold cutV
  rw [HT.sIx_none, HT.sIx_nat, List.drop_zero, Nat.sub_zero]
  by_cases h : k ≤ xs.length
  · rw [Nat.min_eq_left h]
  · rw [Nat.min_eq_right (by omega), List.take_length, List.take_of_length_le (by omega)]
theorem cut_tail {xs : List V} {k : Nat} : cutV xs (some (k : Int)) none = xs.drop k := by
  unfold cutV
  rw [HT.sIx_none, HT.sIx_nat]
  by_cases h : k ≤ xs.length
  · rw [Nat.min_eq_left h, List.take_of_length_le (by rw [List.length_drop]; exact Nat.le_refl _)]
  · rw [Nat.min_eq_right (by omega), Nat.sub_self, List.take_zero, List.drop_of_length_le (by omega)]
end Pot
namespace Pot
open PySem PySem.Spec PyProof.Rows L2
section
variable {K : PySem.W.Frag} {H : Hp} {t : Addr} {d : PyData} {ds : List PyData}
theorem seq_dp {x : V} (h : Dp K H x d) (e : d = .list ds ∨ d = .tuple ds) : ∃ t zs, x = .ref t ∧ (SqL K H t zs ∨ SqT K H t zs) ∧ DpAll K H zs ds := by
  rcases e with rfl | rfl
  · cases h with
    | lst h a => exact ⟨_, _, rfl, .inl h, a⟩
  · cases h with
    | tup h a => exact ⟨_, _, rfl, .inr h, a⟩
theorem len_dp (h : Dp K H (.ref t) d) (e : d = .list ds ∨ d = .tuple ds) : LenV K (.ref t) H ds.length := by
  rcases e with rfl | rfl
  · cases h with
    | lst h a => exact .inl ⟨_, h, (dpAll_len a).symm⟩
  · cases h with
    | tup h a => exact .inr ⟨_, h, (dpAll_len a).symm⟩
theorem Th.parts {m C D W : Nat} (h : Th m C D W d) (e : d = .list ds ∨ d = .tuple ds) : Ths m (C - 3) (D - 1) W ds ∧ ds.length ≤ W ∧ 3 ≤ C ∧ 1 ≤ D := by
  rcases e with rfl | rfl
  · exact h.ofList
  · exact h.ofTuple
end
theorem sm_in {H H' : Hp} {S : List Addr} {x : Addr} {o : HO} (s : Sm S H H') (h : off H S x = some o) : off H' S x = some o := s x o h
end Pot
namespace Pot
open PySem PySem.Spec PyProof.Rows L2
theorem costAll_set_eq : ∀ {ds : List PyData} {i : Nat} {x y : PyData}, ds[i]? = some y → costAll (ds.set i x) + costAll.cost y = costAll ds + costAll.cost x
  | [], _, _, _, h => by simp at h
  | z :: zs, 0, x, y, h => by
    have e : z = y := by simpa using h
    subst e
    show costAll.cost x + 2 + costAll zs + costAll.cost z = costAll.cost z + 2 + costAll zs + costAll.cost x
    omega
  | z :: zs, i + 1, x, y, h => by
    have := costAll_set_eq (ds := zs) (i := i) (x := x) (y := y) (by simpa using h)
    show costAll.cost z + 2 + costAll (zs.set i x) + costAll.cost y = costAll.cost z + 2 + costAll zs + costAll.cost x
    omega
theorem codes_ofString (s : String) : ∀ c ∈ (Str.ofString s).cps.toList, c < 1114112 := by
  intro c hc
  rw [Str.ofString_eq_toList] at hc
  have : c ∈ s.toList.map Char.toNat := by simpa using hc
  obtain ⟨ch, _, rfl⟩ := List.mem_map.mp this
  have v := ch.valid
  have e : ch.toNat = ch.val.toNat := rfl
  rcases v with v | ⟨_, v⟩
  · have : ch.val.toNat < 0xD800 := v
    omega
  · have : ch.val.toNat < 0x110000 := v
    omega
theorem th_text {i : Int} (h : i.natAbs ≤ 2000000) {m : Nat} : Th m 19212 0 0 (.str (toString i)) := by
  have l : (Str.ofString (toString i)).length ≤ 1921 := PyProof.Rows.int_text_len_1921 (log_small' h)
  exact ⟨⟨by omega, codes_ofString _⟩, by show 10 * (Str.ofString (toString i)).length + 2 ≤ 19212; omega, Nat.le_refl _, Nat.le_refl _⟩
end Pot

namespace Pot
open PySem PySem.Spec PyProof.Rows L2
theorem Ths.parts2 {m C E D W a b : Nat} {ds es : List PyData} (h : Ths m C D W ds) (hab : a ≤ b) (k : Ths m E D W es) : Ths m (C + E) D W (ds.take a ++ es ++ ds.drop b) := by
  have mem : ∀ d, d ∈ ds.take a ++ es ++ ds.drop b → d ∈ ds ∨ d ∈ es := fun d hd => by
    rcases List.mem_append.mp hd with z | z
    · rcases List.mem_append.mp z with y | y
      · exact .inl (List.mem_of_mem_take y)
      · exact .inr y
    · exact .inl (List.mem_of_mem_drop z)
  refine ⟨fun d hd => (mem d hd).elim (h.g d) (k.g d), ?_, fun d hd => (mem d hd).elim (h.d d) (k.d d), fun d hd => (mem d hd).elim (h.w d) (k.w d)⟩
  rw [costAll_app, costAll_app]
  have e := costAll_app (ds.take a) (ds.drop a)
  rw [List.take_append_drop] at e
  have e2 : ds.drop b = (ds.drop a).drop (b - a) := by rw [List.drop_drop]; congr 1; omega
  have e3 := costAll_drop (b - a) (ds.drop a)
  rw [← e2] at e3
  have := h.c
  have := k.c
  omega
end Pot

namespace Pot
open PySem PySem.Spec PyProof.Rows L2
theorem nodup_le {α : Type} [BEq α] [LawfulBEq α] : ∀ {ks l : List α}, ks.Nodup → (∀ k ∈ ks, k ∈ l) → ks.length ≤ l.length
  | [], _, _, _ => Nat.zero_le _
  | k :: ks, l, h, s => by
    have hk := s k List.mem_cons_self
    have h2 := (List.nodup_cons.mp h)
    have := nodup_le (ks := ks) (l := l.erase k) h2.2 fun x hx => by
      have ne : x ≠ k := fun e => h2.1 (e ▸ hx)
      exact (List.mem_erase_of_ne ne).mpr (s x (List.mem_cons_of_mem _ hx))
    rw [List.length_erase_of_mem hk] at this
    have : 0 < l.length := List.length_pos_of_mem hk
    simp only [List.length_cons]
    omega
section
variable {X : Cx} {K : PySem.W.Frag}
theorem ko_notIn (h : X.K = K := by rfl) : OpR X (compareOp .NotIn) (rIn K true) := h ▸ op_notIn_seq
/-- set(xs) of ints: how many members it has -/
def rSetLj (K : PySem.W.Frag) (w : World) : List V → Hp → VK → Prop := fun xs H Q => ∃ (a : Addr) (ns : List Int), xs = [V.ref a] ∧ SqL K H a (ns.map V.int) ∧ ns.length ≤ 4000 ∧
  ∀ (p : Addr) (ks : List Int), H p = none → ks.Nodup → (∀ k, k ∈ ks ↔ k ∈ ns) → Q (.ref p) (upd H p (SetO w p (fun k => decide (k ∈ ns)) ks.length))
theorem cr_setLj (hc : X.calm = true) : CallR X (.type "set") (rSetLj X.K X.w) := by
  intro pins s σ H vs us Q I r h
  obtain ⟨a, ns, rfl, hS, hl, q⟩ := h
  rw [Vals.ref1 r]
  obtain ⟨its, rv, pl, hz⟩ := I.list hS
  refine call_set_li ns (I.ok.hd hc) pl.isList (by simpa using Vals.ints rv) (by unfold scanBound; omega) fun s' f => ?_
  obtain ⟨h', tk, c, rfl, R, hcn, k⟩ := f
  have hn : H s.heap.objs.size = none := I.hok.fresh (Nat.le_refl _)
  have J : Inv X pins σ (upd H s.heap.objs.size (SetO X.w s.heap.objs.size (fun k => decide (k ∈ ns)) c)) { s with heap := h', toks := tk } := I.laid (t' := tk) k (Nat.le_refl _) (setO_new R)
  obtain ⟨o, es, ep, t, _, _, _, _, nod, mem, _, _, size, _⟩ := R
  have q2 := q s.heap.objs.size (es.toList.map keyOf) hn nod fun k => by rw [← mem k, decide_eq_true_eq]
  rw [List.length_map, Array.length_toList, size] at q2
  exact ⟨.ref s.heap.objs.size, _, J, rfl, q2⟩
theorem kc_setLj {w : World} (hc : X.calm = true := by rfl) (h : X.K = K := by rfl) (hw : X.w = w := by rfl) : CallR X (.type "set") (rSetLj K w) := by subst h; subst hw; exact cr_setLj hc
end
end Pot

namespace Pot
open PySem PySem.Spec PyProof.Rows L2
/-! ### kinds of data -/
def tyD : PyData → String
  | .none => "NoneType"
  | .bool _ => "bool"
  | .int _ => "int"
  | .str _ => "str"
  | .list _ => "list"
  | .tuple _ => "tuple"
  | .dict _ => "dict"
def isIntD : PyData → Bool
  | .int _ => true
  | .bool _ => true
  | _ => false
def isBoolD : PyData → Bool
  | .bool _ => true
  | _ => false
def isStrD : PyData → Bool
  | .str _ => true
  | _ => false
def isListD : PyData → Bool
  | .list _ => true
  | _ => false
def isTupD : PyData → Bool
  | .tuple _ => true
  | _ => false
section
variable {K : PySem.W.Frag} {H : Hp} {x : V} {d : PyData} {Q : VK}
theorem tyx_dp (h : Dp K H x d) : TyX K H x (.type (tyD d)) := by
  cases h with
  | non => exact .base .non
  | bl b => exact .base (.bl b)
  | int i => exact .base (.int i)
  | str z => exact .base (.str z)
  | lst h _ => exact tyx_list h
  | tup h _ => exact tyx_tup h
theorem kit_int (h : Dp K H x d) : PySem.W.kitOne K (.type (tyD d)) (.type "int") = some (isIntD d) := by
  cases h with
  | non => exact kit_ty (show kitB "NoneType" "int" = some false by decide +kernel)
  | bl _ => exact kit_ty (show kitB "bool" "int" = some true by decide +kernel)
  | int _ => exact kit_ty (show kitB "int" "int" = some true by decide +kernel)
  | str _ => exact kit_ty (show kitB "str" "int" = some false by decide +kernel)
  | lst _ _ => exact kit_ty (show kitB "list" "int" = some false by decide +kernel)
  | tup _ _ => exact kit_ty (show kitB "tuple" "int" = some false by decide +kernel)
theorem kit_bool (h : Dp K H x d) : PySem.W.kitOne K (.type (tyD d)) (.type "bool") = some (isBoolD d) := by
  cases h with
  | non => exact kit_ty (show kitB "NoneType" "bool" = some false by decide +kernel)
  | bl _ => exact kit_ty (show kitB "bool" "bool" = some true by decide +kernel)
  | int _ => exact kit_ty (show kitB "int" "bool" = some false by decide +kernel)
  | str _ => exact kit_ty (show kitB "str" "bool" = some false by decide +kernel)
  | lst _ _ => exact kit_ty (show kitB "list" "bool" = some false by decide +kernel)
  | tup _ _ => exact kit_ty (show kitB "tuple" "bool" = some false by decide +kernel)
theorem kit_str (h : Dp K H x d) : PySem.W.kitOne K (.type (tyD d)) (.type "str") = some (isStrD d) := by
  cases h with
  | non => exact kit_ty (show kitB "NoneType" "str" = some false by decide +kernel)
  | bl _ => exact kit_ty (show kitB "bool" "str" = some false by decide +kernel)
  | int _ => exact kit_ty (show kitB "int" "str" = some false by decide +kernel)
  | str _ => exact kit_ty (show kitB "str" "str" = some true by decide +kernel)
  | lst _ _ => exact kit_ty (show kitB "list" "str" = some false by decide +kernel)
  | tup _ _ => exact kit_ty (show kitB "tuple" "str" = some false by decide +kernel)
theorem kit_list (h : Dp K H x d) : PySem.W.kitOne K (.type (tyD d)) (.type "list") = some (isListD d) := by
  cases h with
  | non => exact kit_ty (show kitB "NoneType" "list" = some false by decide +kernel)
  | bl _ => exact kit_ty (show kitB "bool" "list" = some false by decide +kernel)
  | int _ => exact kit_ty (show kitB "int" "list" = some false by decide +kernel)
  | str _ => exact kit_ty (show kitB "str" "list" = some false by decide +kernel)
  | lst _ _ => exact kit_ty (show kitB "list" "list" = some true by decide +kernel)
  | tup _ _ => exact kit_ty (show kitB "tuple" "list" = some false by decide +kernel)
theorem kit_tup (h : Dp K H x d) : PySem.W.kitOne K (.type (tyD d)) (.type "tuple") = some (isTupD d) := by
  cases h with
  | non => exact kit_ty (show kitB "NoneType" "tuple" = some false by decide +kernel)
  | bl _ => exact kit_ty (show kitB "bool" "tuple" = some false by decide +kernel)
  | int _ => exact kit_ty (show kitB "int" "tuple" = some false by decide +kernel)
  | str _ => exact kit_ty (show kitB "str" "tuple" = some false by decide +kernel)
  | lst _ _ => exact kit_ty (show kitB "list" "tuple" = some false by decide +kernel)
  | tup _ _ => exact kit_ty (show kitB "tuple" "tuple" = some true by decide +kernel)
theorem kit_lt (h : Dp K H x d) : PySem.W.kitAny K (.type (tyD d)) [.type "list", .type "tuple"] = some (isListD d || isTupD d) := by
  cases h <;> rfl
end
/-! ### numbers within bounds -/
def numD (lo hi : Int) : PyData → Bool
  | .int i => decide (lo ≤ i) && decide (i ≤ hi)
  | _ => false
def toI : PyData → Int
  | .int i => i
  | _ => 0
theorem numD_int {lo hi : Int} : ∀ {d : PyData}, numD lo hi d = true → d = .int (toI d) ∧ lo ≤ toI d ∧ toI d ≤ hi
  | .int i, h => by
    obtain ⟨h1, h2⟩ := Bool.and_eq_true_iff.mp (show (decide (lo ≤ i) && decide (i ≤ hi)) = true from h)
    exact ⟨rfl, of_decide_eq_true h1, of_decide_eq_true h2⟩
/-- rising -/
def risI : List Int → Bool
  | a :: b :: r => decide (a < b) && risI (b :: r)
  | _ => true
def risD (lo hi : Int) : PyData → Bool
  | .list ds => ds.all (numD lo hi) && risI (ds.map toI)
  | _ => false
theorem risI_pair : ∀ {ns : List Int}, risI ns = true ↔ ns.Pairwise (· < ·)
  | [] => by simp [risI]
  | [a] => by simp [risI]
  | a :: b :: r => by
    have ih := risI_pair (ns := b :: r)
    show (decide (a < b) && risI (b :: r)) = true ↔ _
    rw [Bool.and_eq_true_iff, decide_eq_true_eq, ih]
    constructor
    · rintro ⟨h1, h2⟩
      refine List.pairwise_cons.mpr ⟨fun x hx => ?_, h2⟩
      rcases List.mem_cons.mp hx with e | e
      · rw [e]; exact h1
      · exact Int.lt_trans h1 ((List.pairwise_cons.mp h2).1 x e)
    · intro h
      obtain ⟨h1, h2⟩ := List.pairwise_cons.mp h
      exact ⟨h1 b List.mem_cons_self, h2⟩
theorem nums_of {lo hi : Int} {ds : List PyData} (h : ds.all (numD lo hi) = true) : ds = (ds.map toI).map PyData.int ∧ ∀ k ∈ ds.map toI, lo ≤ k ∧ k ≤ hi := by
  rw [List.all_eq_true] at h
  constructor
  · rw [List.map_map]
    conv => lhs; rw [← List.map_id ds]
    exact List.map_congr_left fun d hd => (numD_int (h d hd)).1
  · intro k hk
    obtain ⟨d, hd, rfl⟩ := List.mem_map.mp hk
    exact (numD_int (h d hd)).2
section
variable {K : PySem.W.Frag} {H : Hp}
theorem dp_intsV : ∀ {xs : List V} {ns : List Int}, DpAll K H xs (ns.map PyData.int) → xs = ns.map V.int
  | [], [], _ => rfl
  | [], _ :: _, h => by cases h
  | _ :: _, [], h => by cases h
  | x :: xs, n :: ns, h => by
    cases h with
    | cons h t => cases h; rw [dp_intsV t]; rfl
end
/-- of a row that rises just the same: a row in which all stand in order, none twice -/
theorem sorted_uniq : ∀ {xs ys : List Int}, xs.Pairwise (· < ·) → ys.Pairwise (· < ·) → (∀ k, k ∈ xs ↔ k ∈ ys) → xs = ys
  | [], [], _, _, _ => rfl
  | [], y :: ys, _, _, h => by have := (h y).mpr List.mem_cons_self; simp at this
  | x :: xs, [], _, _, h => by have := (h x).mp List.mem_cons_self; simp at this
  | x :: xs, y :: ys, h1, h2, h => by
    rw [List.pairwise_cons] at h1 h2
    have e : x = y := by
      rcases List.mem_cons.mp ((h x).mp List.mem_cons_self) with e | e
      · exact e
      · rcases List.mem_cons.mp ((h y).mpr List.mem_cons_self) with e2 | e2
        · exact e2.symm
        · have := h2.1 x e; have := h1.1 y e2; omega
    subst e
    have : xs = ys := sorted_uniq h1.2 h2.2 fun k => by
      constructor
      · intro hk
        rcases List.mem_cons.mp ((h k).mp (List.mem_cons_of_mem _ hk)) with e | e
        · have := h1.1 k hk; omega
        · exact e
      · intro hk
        rcases List.mem_cons.mp ((h k).mpr (List.mem_cons_of_mem _ hk)) with e | e
        · have := h2.1 k hk; omega
        · exact e
    rw [this]
theorem eqv_ints : ∀ xs ys : List Int, PyData.eqv (.list (xs.map PyData.int)) (.list (ys.map PyData.int)) = decide (xs = ys)
  | [], [] => rfl
  | [], _ :: _ => rfl
  | _ :: _, [] => rfl
  | x :: xs, y :: ys => by
    have ih := eqv_ints xs ys
    show (PyData.eqv (.int x) (.int y) && PyData.eqvAll (xs.map PyData.int) (ys.map PyData.int)) = _
    rw [show PyData.eqvAll (xs.map PyData.int) (ys.map PyData.int) = decide (xs = ys) from ih]
    show ((x == y) && _) = _
    by_cases h : x = y
    · subst h; simp
    · simp [h]
/-- thing == sorted(set(thing)): just where it rises -/
theorem eq_sorted {ns zs : List Int} (h : zs.Pairwise (· < ·)) (m : ∀ k, k ∈ zs ↔ k ∈ ns) : decide (ns = zs) = risI ns := by
  by_cases e : ns = zs
  · rw [decide_eq_true e, e]; exact (risI_pair.mpr h).symm
  · rw [decide_eq_false e]
    cases hr : risI ns with
    | false => rfl
    | true => exact absurd (sorted_uniq (risI_pair.mp hr) h fun k => (m k).symm) e
theorem nodup_60 {ks : List Int} (h : ks.Nodup) (b : ∀ k ∈ ks, 0 ≤ k ∧ k ≤ 60) : ks.length < 64 := by
  have := nodup_le (l := (List.range 61).map fun (i : Nat) => (i : Int)) h fun k hk => by
    obtain ⟨h0, h1⟩ := b k hk
    exact List.mem_map.mpr ⟨k.toNat, List.mem_range.mpr (by omega), by omega⟩
  rw [List.length_map, List.length_range] at this
  omega
end Pot
namespace Pot
open PySem PySem.Spec PyProof.Rows L2
/-! ### a comprehension that changes nothing that stood: out i is what is told up to turn i -/
def PvL (H1 : Hp) (D : Addr) (out : Nat → List V) (i : Nat) (H2 : Hp) : Prop := Same H1 H2 ∧ H2 D = some (.lst (out i))
section
variable {H1 H2 H3 : Hp} {D : Addr} {out : Nat → List V} {i : Nat} {y : V}
theorem pv_start (nD : H1 D = none) (e : out 0 = []) : PvL H1 D out 0 (upd H1 D (.lst [])) := ⟨same_upd nD, by rw [e]; exact upd_same⟩
theorem pv_put (nD : H1 D = none) (p : PvL H1 D out i H2) (s : Same H2 H3) (e : out (i + 1) = out i ++ [y]) (l : (out i).length < sizeLine) : ∃ acc, H3 D = some (.lst acc) ∧ acc.length < sizeLine ∧ PvL H1 D out (i + 1) (upd H3 D (.lst (acc ++ [y]))) :=
  ⟨out i, s _ _ p.2, l, same_put (p.1.trans s) nD, by rw [e]; exact upd_same⟩
theorem pv_skip (p : PvL H1 D out i H2) (s : Same H2 H3) (e : out (i + 1) = out i) : PvL H1 D out (i + 1) H3 := ⟨p.1.trans s, by rw [e]; exact s _ _ p.2⟩
end
theorem take_map {α : Type} (f : α → V) {l : List α} {i : Nat} {x : α} (h : l[i]? = some x) : (l.take (i + 1)).map f = (l.take i).map f ++ [f x] := by
  rw [List.take_add_one, h, List.map_append]; rfl
theorem take_len_lt {α : Type} {f : α → V} {l : List α} {i : Nat} (h : i < 100000) : ((l.take i).map f).length < sizeLine := by
  rw [List.length_map, List.length_take, sizeLine_eq]; omega
theorem take_len_le {α : Type} {f : α → V} {l : List α} {i : Nat} (h : l.length < 100000) : ((l.take i).map f).length < sizeLine := by
  rw [List.length_map, List.length_take, sizeLine_eq]; omega
/-- each below the next -/
def rb : List Int → List Bool
  | a :: b :: r => decide (a < b) :: rb (b :: r)
  | _ => []
theorem rb_all : ∀ ns : List Int, (rb ns).all id = risI ns
  | [] => rfl
  | [_] => rfl
  | a :: b :: r => by show (decide (a < b) && (rb (b :: r)).all id) = _; rw [rb_all (b :: r)]; rfl
theorem rb_len : ∀ ns : List Int, (rb ns).length = ns.length - 1
  | [] => rfl
  | [_] => rfl
  | a :: b :: r => by show (rb (b :: r)).length + 1 = _; rw [rb_len (b :: r)]; simp
theorem rb_at : ∀ {ns : List Int} {i : Nat} {x y : Int}, ns[i]? = some x → ns[i + 1]? = some y → (rb ns)[i]? = some (decide (x < y))
  | [], _, _, _, h, _ => by simp at h
  | [_], i, _, _, _, h => by simp at h
  | a :: b :: r, 0, x, y, h, k => by
    have e1 : a = x := by simpa using h
    have e2 : b = y := by simpa using k
    subst e1 e2; rfl
  | a :: b :: r, i + 1, x, y, h, k => rb_at (ns := b :: r) (i := i) (by simpa using h) (by simpa using k)
/-- what is told of each of some data -/
theorem all_map {ds : List PyData} {f : PyData → Bool} : (ds.map f).all id = ds.all f := by
  rw [List.all_map]; rfl
end Pot
namespace Pot
open PySem PySem.Spec PyProof.Rows L2
theorem pv_end {H1 H2 : Hp} {D : Addr} {out : Nat → List V} {n : Nat} {zs : List V} (p : PvL H1 D out n H2) (e : out n = zs) : Same H1 H2 ∧ H2 D = some (.lst zs) := ⟨p.1, by rw [← e]; exact p.2⟩
theorem take_all {α : Type} {f : α → V} {l : List α} {n : Nat} (h : l.length ≤ n) : (l.take n).map f = l.map f := by rw [List.take_of_length_le h]
end Pot

namespace Pot
open PySem PySem.Spec PyProof.Rows L2
/-! ### palettes as data -/
abbrev Col := Str × Int × Int × Int
abbrev Wsh := Str × Str × Option Int
def colD (c : Col) : PyData := .tuple [.str c.1, .int c.2.1, .int c.2.2.1, .int c.2.2.2]
def optD : Option Int → PyData
  | none => .none
  | some i => .int i
def washD (r : Wsh) : PyData := .tuple [.str r.1, .str r.2.1, optD r.2.2]
def palD (cs : List Col) (ws : List Wsh) : PyData := .tuple [.tuple (cs.map colD), .tuple (ws.map washD)]
def optV : Option Int → V
  | none => .non
  | some i => .int i
def namV : Option Str → V
  | none => .non
  | some z => .str z
/-- the washing between two: the first row that tells -/
def washF (ws : List Wsh) (a : Option Str) (b : Str) : Option Int := match ws with
  | [] => some 0
  | r :: ws => if some r.1 = a ∧ r.2.1 = b then r.2.2 else washF ws a b
/-- the washing of a row -/
def sumF (ws : List Wsh) : Option Str → List Str → Int → Option Int
  | _, [], h => some h
  | a, b :: r, h => match washF ws a b with
    | none => none
    | some k => sumF ws (some b) r (h + k)
section
variable {K : PySem.W.Frag} {H : Hp}
theorem dp_tup {v : V} {ds : List PyData} (h : Dp K H v (.tuple ds)) : ∃ a xs, v = .ref a ∧ SqT K H a xs ∧ DpAll K H xs ds := by
  cases h with
  | tup h a => exact ⟨_, _, rfl, h, a⟩
theorem dp_lst {v : V} {ds : List PyData} (h : Dp K H v (.list ds)) : ∃ a xs, v = .ref a ∧ SqL K H a xs ∧ DpAll K H xs ds := by
  cases h with
  | lst h a => exact ⟨_, _, rfl, h, a⟩
theorem dp_str {v : V} {z : Str} (h : Dp K H v (.str z)) : v = .str z := by cases h; rfl
theorem dp_int {v : V} {z : Int} (h : Dp K H v (.int z)) : v = .int z := by cases h; rfl
theorem dp_opt {v : V} : ∀ {z : Option Int}, Dp K H v (optD z) → v = optV z
  | none, h => by cases h; rfl
  | some i, h => by cases h; rfl
theorem opt_dp : ∀ (z : Option Int), Dp K H (optV z) (optD z)
  | none => .non
  | some i => .int i
theorem dp_two {xs : List V} {d e : PyData} (h : DpAll K H xs [d, e]) : ∃ x y, xs = [x, y] ∧ Dp K H x d ∧ Dp K H y e := by
  cases h with
  | cons h1 t => cases t with
    | cons h2 t => cases t; exact ⟨_, _, rfl, h1, h2⟩
theorem dp_three {xs : List V} {d e f : PyData} (h : DpAll K H xs [d, e, f]) : ∃ x y z, xs = [x, y, z] ∧ Dp K H x d ∧ Dp K H y e ∧ Dp K H z f := by
  cases h with
  | cons h1 t => obtain ⟨y, z, rfl, h2, h3⟩ := dp_two t; exact ⟨_, _, _, rfl, h1, h2, h3⟩
theorem dp_four {xs : List V} {d e f g : PyData} (h : DpAll K H xs [d, e, f, g]) : ∃ x y z u, xs = [x, y, z, u] ∧ Dp K H x d ∧ Dp K H y e ∧ Dp K H z f ∧ Dp K H u g := by
  cases h with
  | cons h1 t => obtain ⟨y, z, u, rfl, h2, h3, h4⟩ := dp_three t; exact ⟨_, _, _, _, rfl, h1, h2, h3, h4⟩
/-- a colour's tuple -/
theorem col_dp {v : V} {c : Col} (h : Dp K H v (colD c)) : ∃ a, v = .ref a ∧ SqT K H a [.str c.1, .int c.2.1, .int c.2.2.1, .int c.2.2.2] := by
  obtain ⟨a, xs, rfl, hs, ha⟩ := dp_tup h
  obtain ⟨x, y, z, u, rfl, h1, h2, h3, h4⟩ := dp_four ha
  rw [dp_str h1, dp_int h2, dp_int h3, dp_int h4] at hs
  exact ⟨a, rfl, hs⟩
theorem wash_dp {v : V} {r : Wsh} (h : Dp K H v (washD r)) : ∃ a, v = .ref a ∧ SqT K H a [.str r.1, .str r.2.1, optV r.2.2] := by
  obtain ⟨a, xs, rfl, hs, ha⟩ := dp_tup h
  obtain ⟨x, y, z, rfl, h1, h2, h3⟩ := dp_three ha
  rw [dp_str h1, dp_str h2, dp_opt h3] at hs
  exact ⟨a, rfl, hs⟩
/-- a palette in the heap -/
theorem pal_dp {v : V} {cs : List Col} {ws : List Wsh} (h : Dp K H v (palD cs ws)) :
    ∃ p c w xs ys, v = .ref p ∧ SqT K H p [.ref c, .ref w] ∧ SqT K H c xs ∧ DpAll K H xs (cs.map colD) ∧ SqT K H w ys ∧ DpAll K H ys (ws.map washD) := by
  obtain ⟨p, zs, rfl, hp, hz⟩ := dp_tup h
  obtain ⟨x, y, rfl, h1, h2⟩ := dp_two hz
  obtain ⟨c, xs, rfl, hc, hx⟩ := dp_tup h1
  obtain ⟨w, ys, rfl, hw, hy⟩ := dp_tup h2
  exact ⟨p, c, w, xs, ys, rfl, hp, hc, hx, hw, hy⟩
theorem dpAll_map_at {α : Type} {f : α → PyData} {xs : List V} {l : List α} {i : Nat} {x : V} (h : DpAll K H xs (l.map f)) (e : xs[i]? = some x) : ∃ y, l[i]? = some y ∧ Dp K H x (f y) := by
  obtain ⟨d, g, p⟩ := dpAll_at h e
  rw [List.getElem?_map] at g
  obtain ⟨y, hy, rfl⟩ := Option.map_eq_some_iff.mp g
  exact ⟨y, hy, p⟩
theorem dpAll_map_len {α : Type} {f : α → PyData} {xs : List V} {l : List α} (h : DpAll K H xs (l.map f)) : xs.length = l.length := by
  rw [dpAll_len h, List.length_map]
end
theorem decS {a b : Str} : decide (V.str a = V.str b) = decide (a = b) := by
  by_cases h : a = b
  · subst h; rw [decide_eq_true rfl, decide_eq_true rfl]
  · rw [decide_eq_false h, decide_eq_false fun z => h (V.str.inj z)]
/-- behind rows that don't tell -/
theorem washF_skip {a : Option Str} {b : Str} : ∀ {ws : List Wsh} {i : Nat}, (∀ j r, j < i → ws[j]? = some r → ¬ (some r.1 = a ∧ r.2.1 = b)) → washF ws a b = washF (ws.drop i) a b
  | ws, 0, _ => rfl
  | [], i + 1, _ => rfl
  | r :: ws, i + 1, h => by
    show (if some r.1 = a ∧ r.2.1 = b then r.2.2 else washF ws a b) = washF (ws.drop i) a b
    rw [if_neg (h 0 r (Nat.succ_pos _) rfl)]
    exact washF_skip (a := a) (b := b) (ws := ws) (i := i) fun j q hj e => h (j + 1) q (Nat.succ_lt_succ hj) e
theorem washF_at {a : Option Str} {b : Str} {ws : List Wsh} {i : Nat} {r : Wsh} (h : ∀ j r, j < i → ws[j]? = some r → ¬ (some r.1 = a ∧ r.2.1 = b)) (e : ws[i]? = some r) (hr : some r.1 = a ∧ r.2.1 = b) : washF ws a b = r.2.2 := by
  rw [washF_skip h, List.drop_eq_getElem_cons (List.getElem?_eq_some_iff.mp e).1, (List.getElem?_eq_some_iff.mp e).2]
  unfold washF
  rw [if_pos hr]
theorem washF_none {a : Option Str} {b : Str} {ws : List Wsh} (h : ∀ j r, j < ws.length → ws[j]? = some r → ¬ (some r.1 = a ∧ r.2.1 = b)) : washF ws a b = some 0 := by
  rw [washF_skip h, List.drop_length]
  rfl
/-! ### data without lists stays while the law draws -/
def noLAll : List PyData → Prop
  | [] => True
  | x :: xs => noL x ∧ noLAll xs
where noL : PyData → Prop
  | .list _ => False
  | .dict _ => False
  | .tuple xs => noLAll xs
  | _ => True
section
variable {K : PySem.W.Frag}
theorem kp_tup {d c : Addr} {H H' : Hp} {n : Nat} {a : Addr} {xs : List V} (st : StAt H d c n) (k : Kp d c H H') (h : SqT K H a xs) : SqT K H' a xs := by
  obtain ⟨_, ys, t, h1, h2, _⟩ := st
  have go : ∀ o, (H a = some (.tup xs) ∨ H a = some (.frz o (.tup xs))) → a ≠ d ∧ a ≠ c := fun o e => by
    constructor
    · intro z; subst z; rw [h1] at e; rcases e with e | e <;> cases e
    · intro z; subst z; rw [h2] at e; rcases e with e | e <;> cases e
  rcases h with (h | ⟨o, h⟩) | h
  · have g := go ⟨.none, none, .fields #[], #[]⟩ (.inl h); exact .inl (.inl (k _ _ g.1 g.2 h))
  · have g := go o (.inr h); exact .inl (.inr ⟨o, k _ _ g.1 g.2 h⟩)
  · exact .inr h
mutual
theorem dp_kp {d c : Addr} {H H' : Hp} {n : Nat} (st : StAt H d c n) (k : Kp d c H H') : ∀ {v : V} {e : PyData}, noLAll.noL e → Dp K H v e → Dp K H' v e
  | _, _, _, .non => .non
  | _, _, _, .bl b => .bl b
  | _, _, _, .int i => .int i
  | _, _, _, .str x => .str x
  | _, _, h, .lst _ _ => h.elim
  | _, _, h, .tup s a => .tup (kp_tup st k s) (dpAll_kp st k h a)
theorem dpAll_kp {d c : Addr} {H H' : Hp} {n : Nat} (st : StAt H d c n) (k : Kp d c H H') : ∀ {vs : List V} {es : List PyData}, noLAll es → DpAll K H vs es → DpAll K H' vs es
  | _, _, _, .nil => .nil
  | _, _, h, .cons x t => .cons (dp_kp st k h.1 x) (dpAll_kp st k h.2 t)
end
mutual
theorem dp_go {H H' : Hp} (go : ∀ a us, SqT K H a us → SqT K H' a us) : ∀ {v : V} {e : PyData}, noLAll.noL e → Dp K H v e → Dp K H' v e
  | _, _, _, .non => .non
  | _, _, _, .bl b => .bl b
  | _, _, _, .int i => .int i
  | _, _, _, .str x => .str x
  | _, _, h, .lst _ _ => h.elim
  | _, _, h, .tup s a => .tup (go _ _ s) (dpAll_go go h a)
theorem dpAll_go {H H' : Hp} (go : ∀ a us, SqT K H a us → SqT K H' a us) : ∀ {vs : List V} {es : List PyData}, noLAll es → DpAll K H vs es → DpAll K H' vs es
  | _, _, _, .nil => .nil
  | _, _, h, .cons x t => .cons (dp_go go h.1 x) (dpAll_go go h.2 t)
end
theorem noL_map {α : Type} {f : α → PyData} (h : ∀ x, noLAll.noL (f x)) : ∀ l : List α, noLAll (l.map f)
  | [] => trivial
  | x :: r => ⟨h x, noL_map h r⟩
theorem noL_col (c : Col) : noLAll.noL (colD c) := ⟨trivial, trivial, trivial, trivial, trivial⟩
theorem noL_wash (r : Wsh) : noLAll.noL (washD r) := ⟨trivial, trivial, by cases r.2.2 <;> trivial, trivial⟩
theorem noL_pal (cs : List Col) (ws : List Wsh) : noLAll.noL (palD cs ws) := ⟨noL_map noL_col cs, noL_map noL_wash ws, trivial⟩
theorem dpAll_app {H : Hp} : ∀ {xs ys : List V} {ds es : List PyData}, DpAll K H xs ds → DpAll K H ys es → DpAll K H (xs ++ ys) (ds ++ es)
  | _, _, _, _, .nil, h => h
  | _, _, _, _, .cons h t, h2 => .cons h (dpAll_app t h2)
end
/-! ### how long a palette's text may be -/
structure PalOk (cs : List Col) (ws : List Wsh) : Prop where
  nc : cs.length ≤ 20
  nw : ws.length ≤ 60
  cn : ∀ c ∈ cs, c.1.length ≤ 9 ∧ (∀ x ∈ c.1.cps.toList, x < 1114112) ∧ c.2.1.natAbs < 10000 ∧ c.2.2.1.natAbs < 10000 ∧ c.2.2.2.natAbs < 10000
  wn : ∀ r ∈ ws, (r.1.length ≤ 9 ∧ ∀ x ∈ r.1.cps.toList, x < 1114112) ∧ (r.2.1.length ≤ 9 ∧ ∀ x ∈ r.2.1.cps.toList, x < 1114112) ∧ ∀ i, r.2.2 = some i → i.natAbs < 10000
theorem PalOk.addC {cs : List Col} {ws : List Wsh} {c : Col} (h : PalOk cs ws) (n : cs.length < 20) (ok : c.1.length ≤ 9 ∧ (∀ x ∈ c.1.cps.toList, x < 1114112) ∧ c.2.1.natAbs < 10000 ∧ c.2.2.1.natAbs < 10000 ∧ c.2.2.2.natAbs < 10000) : PalOk (cs ++ [c]) ws :=
  ⟨by rw [List.length_append]; exact n, h.nw, fun x hx => (List.mem_append.mp hx).elim (h.cn x) fun z => by rw [List.mem_singleton.mp z]; exact ok, h.wn⟩
theorem PalOk.addW {cs : List Col} {ws : List Wsh} {r : Wsh} (h : PalOk cs ws) (n : ws.length < 60) (ok : (r.1.length ≤ 9 ∧ ∀ x ∈ r.1.cps.toList, x < 1114112) ∧ (r.2.1.length ≤ 9 ∧ ∀ x ∈ r.2.1.cps.toList, x < 1114112) ∧ ∀ i, r.2.2 = some i → i.natAbs < 10000) : PalOk cs (ws ++ [r]) :=
  ⟨h.nc, by rw [List.length_append]; exact n, h.cn, fun x hx => (List.mem_append.mp hx).elim (h.wn x) fun z => by rw [List.mem_singleton.mp z]; exact ok⟩
theorem log_small {i : Int} (h : i.natAbs < 10000) : i.natAbs.log2 < 1920 := by
  by_cases z : i.natAbs = 0
  · rw [z]; decide
  · have := (Nat.log2_lt z).mpr (show i.natAbs < 2 ^ 14 from Nat.lt_of_lt_of_le h (by decide))
    omega
theorem fineAll_map {α : Type} {f : α → PyData} : ∀ {l : List α}, (∀ x ∈ l, fineAll.fine (f x)) → fineAll (l.map f)
  | [], _ => trivial
  | x :: r, h => ⟨h x List.mem_cons_self, fineAll_map fun y hy => h y (List.mem_cons_of_mem _ hy)⟩
theorem costAll_map {α : Type} {f : α → PyData} {b : Nat} : ∀ {l : List α}, (∀ x ∈ l, costAll.cost (f x) ≤ b) → costAll (l.map f) ≤ l.length * (b + 2)
  | [], _ => Nat.zero_le _
  | x :: r, h => by
    have h1 := h x List.mem_cons_self
    have h2 := costAll_map (l := r) fun y hy => h y (List.mem_cons_of_mem _ hy)
    show costAll.cost (f x) + 2 + costAll (r.map f) ≤ (r.length + 1) * (b + 2)
    rw [Nat.succ_mul]
    omega
theorem depthAll_map {α : Type} {f : α → PyData} {b : Nat} : ∀ {l : List α}, (∀ x ∈ l, (f x).depth ≤ b) → PyData.depthAll (l.map f) ≤ b
  | [], _ => Nat.zero_le _
  | x :: r, h => by
    show max (f x).depth (PyData.depthAll (r.map f)) ≤ b
    exact Nat.max_le.mpr ⟨h x List.mem_cons_self, depthAll_map fun y hy => h y (List.mem_cons_of_mem _ hy)⟩
theorem fine_col {c : Col} (h : c.1.length ≤ 9 ∧ (∀ x ∈ c.1.cps.toList, x < 1114112) ∧ c.2.1.natAbs < 10000 ∧ c.2.2.1.natAbs < 10000 ∧ c.2.2.2.natAbs < 10000) : fineAll.fine (colD c) :=
  ⟨fun x hx => Nat.lt_trans (h.2.1 x hx) (by decide), log_small h.2.2.1, log_small h.2.2.2.1, log_small h.2.2.2.2, trivial⟩
theorem fine_opt {o : Option Int} (h : ∀ i, o = some i → i.natAbs < 10000) : fineAll.fine (optD o) := by
  cases o with
  | none => trivial
  | some i => exact log_small (h i rfl)
theorem pal_fine {cs : List Col} {ws : List Wsh} (h : PalOk cs ws) : fineAll.fine (palD cs ws) :=
  ⟨fineAll_map fun c hc => fine_col (h.cn c hc), fineAll_map fun r hr => ⟨fun x hx => Nat.lt_trans ((h.wn r hr).1.2 x hx) (by decide), fun x hx => Nat.lt_trans ((h.wn r hr).2.1.2 x hx) (by decide), fine_opt (h.wn r hr).2.2, trivial⟩, trivial⟩
theorem cost_opt (o : Option Int) : costAll.cost (optD o) ≤ 1921 := by
  cases o with
  | none => decide
  | some i => exact Nat.le_refl _
theorem pal_cost {cs : List Col} {ws : List Wsh} (h : PalOk cs ws) : costAll.cost (palD cs ws) ≤ 1000000 := by
  have h1 : costAll (cs.map colD) ≤ cs.length * (10000 + 2) := costAll_map fun c hc => by
    have := (h.cn c hc).1
    show (10 * c.1.length + 2) + 2 + (1921 + 2 + (1921 + 2 + (1921 + 2 + 0))) + 3 ≤ 10000
    omega
  have h2 : costAll (ws.map washD) ≤ ws.length * (10000 + 2) := costAll_map fun r hr => by
    have a := (h.wn r hr).1.1
    have b := (h.wn r hr).2.1.1
    have c := cost_opt r.2.2
    show (10 * r.1.length + 2) + 2 + ((10 * r.2.1.length + 2) + 2 + (costAll.cost (optD r.2.2) + 2 + 0)) + 3 ≤ 10000
    omega
  have h3 := Nat.mul_le_mul_right 10002 h.nc
  have h4 := Nat.mul_le_mul_right 10002 h.nw
  show (costAll (cs.map colD) + 3) + 2 + ((costAll (ws.map washD) + 3) + 2 + 0) + 3 ≤ 1000000
  omega
theorem depth_opt (o : Option Int) : (optD o).depth = 0 := by cases o <;> rfl
theorem pal_depth (cs : List Col) (ws : List Wsh) : (palD cs ws).depth ≤ 3 := by
  have h1 : PyData.depthAll (cs.map colD) ≤ 1 := depthAll_map fun c _ => by show 1 ≤ 1; decide
  have h2 : PyData.depthAll (ws.map washD) ≤ 1 := depthAll_map fun r _ => by
    show max 0 (max 0 (max (optD r.2.2).depth 0)) + 1 ≤ 1
    rw [depth_opt]
    decide
  show max (PyData.depthAll (cs.map colD) + 1) (max (PyData.depthAll (ws.map washD) + 1) 0) + 1 ≤ 3
  omega
end Pot

namespace Pot
open PySem PySem.Spec PyProof.Rows L2
/-! ### a box of three numbers whose last is at most n -/
def Bq (H : Hp) (b : Addr) (n : Nat) : Prop := ∃ x y z : Int, H b = some (.lst [.int x, .int y, .int z]) ∧ 0 ≤ z ∧ z ≤ n
section
variable {H H' : Hp} {b p : Addr} {n m : Nat} {o : HO}
theorem Bq.bx (B : Bq H b n) : Bx H b := by
  obtain ⟨x, y, z, h, _⟩ := B
  exact ⟨x, y, z, h⟩
theorem Bq.same (B : Bq H b n) (s : Same H H') : Bq H' b n := by
  obtain ⟨x, y, z, h, h2⟩ := B
  exact ⟨x, y, z, s _ _ h, h2⟩
theorem Bq.put (B : Bq H b n) (h : H p = none) : Bq (upd H p o) b n := B.same (same_upd h)
theorem Bq.wr (B : Bq H b n) (h : p ≠ b) : Bq (upd H p o) b n := by
  obtain ⟨x, y, z, e, h2⟩ := B
  exact ⟨x, y, z, by rw [upd_ne h.symm]; exact e, h2⟩
theorem Bq.mono (B : Bq H b n) (h : n ≤ m) : Bq H b m := by
  obtain ⟨x, y, z, e, h1, h2⟩ := B
  exact ⟨x, y, z, e, h1, by omega⟩
theorem Bq.ne (B : Bq H b n) (h : H p = none) : p ≠ b := B.bx.ne h
theorem Live.q (B : Bq H b n) : Live [b] H := Live.one B.bx
end
theorem b01 (k : Bool) : -(2 ^ 64 : Int) < (if k = true then 1 else 0) ∧ (if k = true then 1 else 0) < (2 ^ 64 : Int) := by cases k <;> decide
theorem CDivW.of {i j : Int} (h0 : 0 < j) (h1 : j < 2 ^ 64) : CDivW i j := by
  refine ⟨h0, ?_⟩
  have z : j.natAbs ≠ 0 := by omega
  have := (Nat.log2_lt z).mpr (show j.natAbs < 2 ^ 64 by omega)
  omega
mutual
theorem gd_lay {m : Nat} : ∀ d : PyData, gd m d → d.canLay0 = true
  | .none, _ => rfl
  | .bool _, _ => rfl
  | .int _, _ => rfl
  | .str x, g => by
    show x.cps.all (fun c => decide (c < 0x110000)) = true
    rw [← Array.all_toList, List.all_eq_true]
    exact fun c hc => decide_eq_true (g.2 c hc)
  | .list xs, g => gdAll_lay xs g
  | .tuple xs, g => gdAll_lay xs g
  | .dict _, g => g.elim
theorem gdAll_lay {m : Nat} : ∀ ds : List PyData, gdAll m ds → PyData.canLayAll0 ds = true
  | [], _ => rfl
  | x :: xs, g => by
    show (x.canLay0 && PyData.canLayAll0 xs) = true
    rw [gd_lay x g.1, gdAll_lay xs g.2]; rfl
end
theorem Th.shaped {m C D W : Nat} {d : PyData} (h : Th m C D W d) (hD : D ≤ 64) : SeqAt.shaped d = true := by
  unfold SeqAt.shaped
  rw [gd_lay d h.g, decide_eq_true (Nat.le_trans h.d hD)]; rfl
theorem gd_shaped {m : Nat} {d : PyData} (h : gd m d) (hD : d.depth ≤ 64) : SeqAt.shaped d = true := by
  unfold SeqAt.shaped
  rw [gd_lay d h, decide_eq_true hD]; rfl
end Pot

namespace Pot
open PySem PySem.Spec PyProof.Rows L2
/-! ### words of letters -/
/-- at most n letters a to z -/
def Wd (n : Nat) (z : Str) : Prop := z.length ≤ n ∧ ∀ c ∈ z.cps.toList, 97 ≤ c ∧ c ≤ 122
theorem Wd.mono {n m : Nat} {z : Str} (h : Wd n z) (k : n ≤ m) : Wd m z := ⟨Nat.le_trans h.1 k, h.2⟩
theorem wd_add {n m : Nat} {a b : Str} (h : Wd n a) (k : Wd m b) : Wd (n + m) (a ++ b) := by
  refine ⟨by rw [strLen_append]; exact Nat.add_le_add h.1 k.1, fun c hc => ?_⟩
  have e : (a ++ b).cps.toList = a.cps.toList ++ b.cps.toList := by
    show (a.cps ++ b.cps).toList = _
    simp
  rw [e] at hc
  exact (List.mem_append.mp hc).elim (h.2 c) (k.2 c)
def az : List Nat := [97, 98, 99, 100, 101, 102, 103, 104, 105, 106, 107, 108, 109, 110, 111, 112, 113, 114, 115, 116, 117, 118, 119, 120, 121, 122]
theorem az_cps : (Str.ofString "abcdefghijklmnopqrstuvwxyz").cps.toList = az := by decide +kernel
theorem az_at : ∀ k : Nat, k < 26 → atI az ((k : Nat) : Int) = some (97 + k) := by unfold az; decide
theorem az_ix {i : Int} (h0 : 0 ≤ i) (h1 : i < 26) : atI (Str.ofString "abcdefghijklmnopqrstuvwxyz").cps.toList i = some (97 + i.toNat) := by
  rw [az_cps]
  have h := az_at i.toNat (by omega)
  rw [show ((i.toNat : Nat) : Int) = i by omega] at h
  exact h
theorem wd_sign {c : Nat} (h0 : 97 ≤ c) (h1 : c ≤ 122) : Wd 1 ⟨#[c]⟩ := ⟨Nat.le_refl _, fun d hd => by
  have e : d = c := by simpa using hd
  subst e; exact ⟨h0, h1⟩⟩
theorem wd_letter {i : Int} (h0 : 0 ≤ i) (h1 : i < 26) : Wd 1 ⟨#[97 + i.toNat]⟩ := wd_sign (by omega) (by omega)
theorem wd_nil : Wd 0 Str.empty := ⟨Nat.le_refl _, fun c hc => by have : c ∈ ([] : List Nat) := hc; simp at this⟩
theorem wd_join : ∀ {ys : List Str}, (∀ y ∈ ys, Wd 1 y) → Wd ys.length (Str.join Str.empty ys)
  | [], _ => wd_nil
  | [x], h => h x List.mem_cons_self
  | x :: y :: r, h => by
    have ih := wd_join (ys := y :: r) fun z hz => h z (List.mem_cons_of_mem _ hz)
    show Wd _ (x ++ Str.empty ++ Str.join Str.empty (y :: r))
    have h1 := wd_add (wd_add (h x List.mem_cons_self) wd_nil) ih
    exact h1.mono (by simp only [List.length_cons]; omega)
theorem cut_mem {z : Str} {lo hi : Option Int} {c : Nat} (h : c ∈ (cutS z lo hi).cps.toList) : c ∈ z.cps.toList := by
  unfold cutS at h
  have h2 : c ∈ (z.cps.toList.drop (HT.sIx z.length 0 lo)).take (HT.sIx z.length z.length hi - HT.sIx z.length 0 lo) := by simpa using h
  exact List.mem_of_mem_drop (List.mem_of_mem_take h2)
theorem cut_len (z : Str) (lo hi : Option Int) : (cutS z lo hi).length ≤ HT.sIx z.length z.length hi - HT.sIx z.length 0 lo := by
  unfold cutS
  show (List.toArray _).size ≤ _
  rw [List.size_toArray]
  exact List.length_take_le ..
theorem wd_head {n k : Nat} {z : Str} (h : Wd n z) : Wd k (cutS z none (some (k : Int))) := by
  refine ⟨Nat.le_trans (cut_len z none (some (k : Int))) ?_, fun c hc => h.2 c (cut_mem hc)⟩
  rw [HT.sIx_nat]
  omega
theorem wd_tail {n k : Nat} {z : Str} (h : Wd n z) : Wd (z.length - k) (cutS z (some (k : Int)) none) := by
  refine ⟨Nat.le_trans (cut_len z (some (k : Int)) none) ?_, fun c hc => h.2 c (cut_mem hc)⟩
  rw [HT.sIx_nat, HT.sIx_none]
  omega
theorem wd_cut {n : Nat} {z : Str} {lo hi : Option Int} (h : Wd n z) : Wd n (cutS z lo hi) := by
  refine ⟨Nat.le_trans (cut_len z lo hi) ?_, fun c hc => h.2 c (cut_mem hc)⟩
  have := HT.sIx_le z.length z.length (Nat.le_refl _) hi
  have := h.1
  omega
theorem wd_small {n : Nat} {z : Str} (h : Wd n z) (k : n ≤ 1000) : z.length ≤ sizeLine := Nat.le_trans h.1 (Nat.le_trans k (by decide))
theorem wd_codes {n : Nat} {z : Str} (h : Wd n z) : ∀ x ∈ z.cps.toList, x < 1114112 := fun x hx => by have := (h.2 x hx).2; omega
section
variable {K : PySem.W.Frag}
theorem kp_seq {d c l : Addr} {H H' : Hp} {xs : List V} (k : Kp d c H H') (n1 : l ≠ d) (n2 : l ≠ c) (h : SqL K H l xs) : SqL K H' l xs := by
  rcases h with (h | ⟨o, h⟩) | h
  · exact .inl (.inl (k _ _ n1 n2 h))
  · exact .inl (.inr ⟨o, k _ _ n1 n2 h⟩)
  · exact .inr h
end
end Pot

namespace Pot
open PySem PySem.Spec PyProof.Rows L2
/-- a row that tells of these two -/
def mat (a : Option Str) (b : Str) (r : Wsh) : Bool := decide (some r.1 = a) && decide (r.2.1 = b)
def namD : Option Str → PyData
  | none => .none
  | some z => .str z
theorem washF_filter (a : Option Str) (b : Str) : ∀ ws : List Wsh, washF ws a b = match ws.filter (mat a b) with
    | [] => some 0
    | r :: _ => r.2.2
  | [] => rfl
  | r :: ws => by
    show (if some r.1 = a ∧ r.2.1 = b then r.2.2 else washF ws a b) = _
    rw [List.filter_cons]
    by_cases h : some r.1 = a ∧ r.2.1 = b
    · have e : mat a b r = true := by unfold mat; rw [decide_eq_true h.1, decide_eq_true h.2]; rfl
      rw [if_pos h, if_pos e]
    · have e : ¬ mat a b r = true := by
        unfold mat
        rw [Bool.and_eq_true, decide_eq_true_eq, decide_eq_true_eq]
        exact h
      rw [if_neg h, if_neg e]
      exact washF_filter a b ws
theorem str_beq (x y : Str) : (x == y) = decide (x = y) := by
  by_cases h : x = y
  · subst h; rw [decide_eq_true rfl]; exact beq_self_eq_true x
  · rw [decide_eq_false h]; exact beq_false_of_ne h
theorem eqv_mat (a : Option Str) (b : Str) (r : Wsh) : PyData.eqv (.tuple [.str r.1, .str r.2.1]) (.tuple [namD a, .str b]) = mat a b r := by
  unfold mat
  cases a with
  | none =>
    rw [decide_eq_false (by intro z; cases z)]
    rfl
  | some z =>
    show ((r.1 == z) && ((r.2.1 == b) && true)) = _
    rw [str_beq, str_beq, Bool.and_true]
    congr 1
    by_cases h : r.1 = z
    · rw [decide_eq_true h, decide_eq_true (by rw [h])]
    · rw [decide_eq_false h, decide_eq_false fun q => h (Option.some.inj q)]
section
variable {K : PySem.W.Frag} {H : Hp}
theorem nam_dp : ∀ a : Option Str, Dp K H (namV a) (namD a)
  | none => .non
  | some z => .str z
theorem dpAll_opts : ∀ l : List Wsh, DpAll K H (l.map fun r => optV r.2.2) (l.map fun r => optD r.2.2)
  | [] => .nil
  | r :: l => .cons (opt_dp r.2.2) (dpAll_opts l)
end
/-- signs that there are -/
def Sg (z : Str) : Prop := ∀ x ∈ z.cps.toList, x < 1114112
theorem strOk_len {z : Str} (h : Sg z) : PyData.strOk z = true := by
  unfold PyData.strOk
  rw [Array.all_eq_true_iff_forall_mem]
  intro x hx
  exact decide_eq_true (h x (Array.mem_toList_iff.mpr hx))
theorem shaped_two {x y : Str} (h : Sg x) (k : Sg y) : SeqAt.shaped (.tuple [.str x, .str y]) = true := by
  show (PyData.strOk x && (PyData.strOk y && true)) && decide (max 0 (max 0 0) + 1 ≤ 64) = true
  rw [strOk_len h, strOk_len k]
  rfl
theorem shaped_nam {a : Option Str} {y : Str} (h : ∀ z, a = some z → Sg z) (k : Sg y) : SeqAt.shaped (.tuple [namD a, .str y]) = true := by
  cases a with
  | none =>
    show (true && (PyData.strOk y && true)) && decide (max 0 (max 0 0) + 1 ≤ 64) = true
    rw [strOk_len k]
    rfl
  | some z => exact shaped_two (h z rfl) k
theorem shaped_opts (l : List Wsh) : SeqAt.shaped (.list (l.map fun r => optD r.2.2)) = true := by
  have h1 : ∀ l : List Wsh, PyData.canLayAll0 (l.map fun r => optD r.2.2) = true := by
    intro l
    induction l with
    | nil => rfl
    | cons r l ih =>
      show (PyData.canLay0 (optD r.2.2) && PyData.canLayAll0 (l.map fun r => optD r.2.2)) = true
      rw [ih]
      cases r.2.2 <;> rfl
  have h2 : PyData.depthAll (l.map fun r => optD r.2.2) ≤ 0 := depthAll_map fun r _ => by rw [depth_opt]; exact Nat.le_refl _
  show (PyData.canLayAll0 (l.map fun r => optD r.2.2) && decide (PyData.depthAll (l.map fun r => optD r.2.2) + 1 ≤ 64)) = true
  rw [h1, decide_eq_true (by omega)]
  rfl
end Pot

namespace Pot
open PySem PySem.Spec PyProof.Rows L2
section
variable {X : Cx} {K : PySem.W.Frag}
/-- len of a set of ints -/
def rLenSet (w : World) : List V → Hp → VK → Prop := fun xs H Q => ∃ (a : Addr) (S : Int → Bool) (n : Nat), xs = [V.ref a] ∧ H a = some (SetO w a S n) ∧ Q (.int n) H
theorem cr_lenSet : CallR X (.builtin "len") (rLenSet X.w) := by
  intro pins s σ H vs us Q I r h
  obtain ⟨a, S, n, rfl, ha, q⟩ := h
  rw [Vals.ref1 r]
  obtain ⟨o, es, ep, t, ho, hex, hd, _, _, _, hb, hf, rfl, _⟩ := setO_get I ha
  exact PySem.call_len_set ho hex hd hf (by unfold scanBound at hb; omega) ⟨.int _, H, I.tok _, ⟨_, rfl⟩, q⟩
theorem kc_lenSet {w : World} (hw : X.w = w := by rfl) : CallR X (.builtin "len") (rLenSet w) := by subst hw; exact cr_lenSet
/-- repr of any data -/
def rReprA (K : PySem.W.Frag) : List V → Hp → VK → Prop := fun xs H Q => ∃ (x : V) (d : PyData), xs = [x] ∧ Dp K H x d ∧ fineAll.fine d ∧ d.depth ≤ 60 ∧ costAll.cost d ≤ 16777216 ∧ Q (.str d.shown) H
theorem cr_reprA (gd : X.A.guards = some []) (hu : X.A.units + 64 < cLine) : CallR X (.builtin "repr") (rReprA X.K) := by
  intro pins s σ H vs us Q I r h
  obtain ⟨x, d, rfl, dp, sh, dep, sz, q⟩ := h
  obtain ⟨u, rfl, rx⟩ := vals1 r
  have sz2 := Nat.le_trans (shown_len d sh) (by rw [sizeLine_eq]; exact sz : costAll.cost d ≤ sizeLine)
  cases x with
  | ref a =>
    cases rx
    obtain ⟨as, rd⟩ := Dp.reads I d (.ref a) (.ref a) dp rfl
    refine repr_of_reads' rd (fine_show d sh) (fun z => ?_) gd (by omega) (fun _ _ e => e) (fun h' u tk k => ⟨.str d.shown, H, I.kept k, ⟨u, rfl⟩, q⟩) sz2
    rw [dp_noDict dp] at z
    cases z
  | int i =>
    cases dp
    obtain ⟨t, rfl⟩ := rx
    exact PySem.P.repr_of_int sh ⟨.str _, H, I.tok _, ⟨_, rfl⟩, q⟩
  | str z =>
    cases dp
    obtain ⟨t, rfl⟩ := rx
    exact PySem.P.repr_of_str ⟨.str _, H, I.tok _, ⟨_, rfl⟩, q⟩ sz2
  | bl b =>
    cases dp
    cases rx
    refine PySem.P.repr_of_bool ⟨.str _, H, I.tok _, ⟨_, rfl⟩, ?_⟩
    exact q
  | non =>
    cases dp
    cases rx
    exact PySem.P.repr_of_none ⟨.str _, H, I.tok _, ⟨_, rfl⟩, q⟩
  | _ => cases dp
theorem kc_reprA (gd : X.A.guards = some []) (hu : X.A.units + 64 < cLine) (h : X.K = K := by rfl) : CallR X (.builtin "repr") (rReprA K) := h ▸ cr_reprA gd hu
end
theorem short_of {α : Type} [DecidableEq α] : ∀ {ns : List α}, ¬ ns.Nodup → ∃ ns' : List α, ns'.length < ns.length ∧ ∀ k ∈ ns, k ∈ ns'
  | [], h => (h List.nodup_nil).elim
  | x :: ns, h => by
    by_cases hx : x ∈ ns
    · exact ⟨ns, by simp, fun k hk => by
        rcases List.mem_cons.mp hk with e | e
        · rw [e]; exact hx
        · exact e⟩
    · obtain ⟨ns', l, s⟩ := short_of (ns := ns) fun hn => h (List.nodup_cons.mpr ⟨hx, hn⟩)
      exact ⟨x :: ns', by simp only [List.length_cons]; omega, fun k hk => by
        rcases List.mem_cons.mp hk with e | e
        · rw [e]; exact List.mem_cons_self
        · exact List.mem_cons_of_mem _ (s k e)⟩
theorem set_count {ks ns : List Int} (hk : ks.Nodup) (h : ∀ k, k ∈ ks ↔ k ∈ ns) : ks.length ≤ ns.length ∧ (ks.length = ns.length ↔ ns.Nodup) := by
  have le := nodup_le hk fun k x => (h k).mp x
  refine ⟨le, fun e => ?_, fun hn => Nat.le_antisymm le (nodup_le hn fun k x => (h k).mpr x)⟩
  by_cases hn : ns.Nodup
  · exact hn
  · obtain ⟨ns', l, s⟩ := short_of hn
    have := nodup_le hk fun k x => s k ((h k).mp x)
    omega
end Pot

namespace Pot
open PySem PySem.Spec PyProof.Rows L2
section
variable {X : Cx} {K : PySem.W.Frag}
theorem ko_inD (hu : X.A.units + 65 < cLine) (h : X.K = K := by rfl) : OpR X (compareOp .In) (rInD K) := h ▸ op_inD hu
theorem ko_notInD (hu : X.A.units + 65 < cLine) (h : X.K = K := by rfl) : OpR X (compareOp .NotIn) (rNotInD K) := h ▸ op_notInD hu
/-- a text thrice -/
def rRep3 : R2 := fun x y H Q => ∃ z : Str, x = .str z ∧ y = .int 3 ∧ z.length ≤ 100000 ∧ ∀ z' : Str, z'.length ≤ 3 * z.length → (∀ c ∈ z'.cps.toList, c ∈ z.cps.toList) → Q (.str z') H
theorem mul3_len (z : Str) : (Txt.mul z 3).length ≤ 3 * z.length ∧ ∀ c ∈ (Txt.mul z 3).cps.toList, c ∈ z.cps.toList := by
  unfold Txt.mul
  rw [if_neg (show ¬ (3 : Int) < 1 by decide)]
  split
  · exact ⟨by omega, fun c h => h⟩
  · constructor
    · show Array.size _ ≤ _
      simp [List.replicate]
      show z.cps.size + (z.cps.size + z.cps.size) ≤ 3 * z.cps.size
      omega
    · intro c h
      simp [List.replicate] at h
      simpa using h
theorem op_rep3 : OpR X (binaryOp .Mult) rRep3 := by
  intro pins sh sg H xv yv v1 u1 Q I r1 r2 h
  obtain ⟨z, rfl, rfl, hz, q⟩ := h
  obtain ⟨tk1, rfl⟩ := r1
  obtain ⟨tk2, rfl⟩ := r2
  have m3 := mul3_len z
  refine SB.mul ⟨by decide, fun _ _ hh => ?_, fun _ _ => ?_⟩ (fun tt kk => ⟨.str (Txt.mul z 3), H, I.tok _, ⟨_, rfl⟩, q _ m3.1 m3.2⟩)
  · have : ((2 : Int) ^ 63 - 1) / 3 = 3074457345618258602 := by decide
    omega
  · have e : (3 : Int).toNat = 3 := rfl
    rw [e]
    show decide _ = false
    refine decide_eq_false ?_
    have := sizeLine_eq
    omega
end
end Pot

namespace Pot
open PySem PySem.Spec PyProof.Rows L2
open Sem (wp)
/-! ### enumerate of a list or a tuple -/
set_option maxHeartbeats 1000000 in
theorem en_new {v : Value} {ob : Obj} {Ok : Heap → Prop} (B : Begins v ob Ok) :
    Meets (Builtin.«enumerate.__new__» ⟨[.type "enumerate", v], []⟩) (fun _ R s => Ok s.heap ∧ R (.ok (.ret (.ref (s.heap.push ob).objs.size))) { s with heap := (s.heap.push ob).push { cls := .type "enumerate", data := .fields #[.none, .bool false, .ref s.heap.objs.size, rawInt 0, .none, .none] } }) :=
  .of_wp fun prog w A R st hst => by
    obtain ⟨hp, gl, dd, tt, oo⟩ := st; obtain ⟨ok1, fin⟩ := hst; have isub := sub_enumerate
    have go : ∀ {A1 : Around} {E1 : Value → Shared → Prop} {Q1 : Value → Shared → Prop}, Q1 (.ref hp.objs.size) ⟨hp.push ob, gl, dd, tt, oo⟩ → wpAny (model prog w) A1 (pyIter v) Q1 E1 ⟨hp, gl, dd, tt, oo⟩ := fun z => B.iter prog w _ _ ⟨hp, gl, dd, tt, oo⟩ _ ok1 z
    wp_walk using go
    refine wpAny_stack_any fun stk => wpAny_pure ?_
    split
    · rename_i cc _ _ _ _ _; cases (cc == Value.type "enumerate") <;> (wp_walk using go; exact ⟨_, rfl, fin⟩)
    · wp_walk using go; exact ⟨_, rfl, fin⟩
/-- some untracked cells written, nothing new -/
theorem inv_ch {X : Cx} {pins : List (Addr × Obj)} {σ : L2.St} {H : Hp} {s : Shared} {h2 : Heap} {tk : Nat} {ch : List Addr} (I : Inv X pins σ H s) (kp : ∀ b o, b ∉ ch → s.heap.get? b = some o → h2.get? b = some o) (fo : ∀ b ∈ ch, FpOk X pins H b) :
    Inv X pins σ H { s with heap := h2, toks := tk } := by
  have out : ∀ c u, H c = some u → c ∉ ch := fun c u e z => by have := (fo c z).1; rw [this] at e; cases e
  refine I.step (g' := s.gens) (d' := s.drawn) (ch := ch) (fun c hc => let ⟨_, a2, _, a4, a5, a6⟩ := fo c hc; ⟨a4, a2, a5, a6⟩) (fun c o _ _ n e _ => kp c o n e) (fun c o _ _ n e _ => ⟨o.slots, kp c o n e⟩) (fun _ _ _ _ z => z) (fun c o n e => ⟨o, kp c o n e⟩) (fun _ _ z => z) (fun _ _ _ z => z) (fun c ps e => ⟨#[], by rw [e]; simp⟩) (fun mm hm => ?_) (fun c u e => ?_) I.bare
  · obtain ⟨o, e1, e2, ho, rest⟩ := hm; exact ⟨o, e1, e2, kp _ o (fun z => (fo _ z).2.1 rfl) ho, rest⟩
  · refine (I.hok c u e).stay (fun c2 v hc q => kp c2 v ?_ q) (fun _ z => z) fun _ _ z => z
    rcases hc with z | z
    · rw [z]; exact out c u e
    · exact out c2 _ z
def ItT (K : PySem.W.Frag) (a : Addr) : It :=
  ⟨fun i H => ∃ (xs : List V) (x : V), SqT K H a xs ∧ xs[i]? = some x, fun i H v H' => ∃ T x, v = .ref T ∧ H T = none ∧ H' = upd H T (.tup [.int (i : Nat), x]) ∧ ∀ xs, SqT K H a xs → xs[i]? = some x, fun i H => ∃ xs : List V, SqT K H a xs ∧ xs.length ≤ i⟩
/-- an iterator of a tuple that has come to its end -/
theorem drawsEnd {prog : Program} {w : World} {A : Around} (hh : A.handled = none) (it t : Addr) (items : Array Value) (i : Nat) (hi : items[i]? = none) :
    Draws prog w A it [it, t] i (fun _ _ => False) (fun j h => j = i ∧ h.IsTupleIter it t j ∧ h.IsTuple t items) where
  live := fun _ _ st => let ⟨o, ho, _⟩ := st.2.1; ⟨o, ho⟩
  frame := fun _ _ _ st hk => ⟨st.1, st.2.1.at fun o e => hk it (by simp) o e, st.2.2.at fun o e => hk t (by simp) o e⟩
  item := fun j _ _ _ hj st _ => absurd st.1 (Nat.ne_of_lt hj)
  done := fun s Q E st hE => wpAny_nextOf_tuple_end hh st.2.1 st.2.2 hi hE
theorem turn_enT {P : Program} {w : World} {K : PySem.W.Frag} {elts : List Expr} {kk : Nat} {tpos : Pos} (a e it : Addr) (ne1 : e ≠ it) :
    Turn P w K (.Tuple elts kk tpos) (ItT K a) [e, it] e (fun i h => (∃ old, IsEnum h e it (0 + ((i : Nat) : Int)) old) ∧ h.IsTupleIter it a i) where
  mem := by simp
  obj := fun i h st b hb => by
    obtain ⟨⟨old, he⟩, ⟨o, ho, hc, hd⟩⟩ := st
    rcases List.mem_cons.mp hb with z | z
    · rw [z]; exact ⟨_, he, fun v q => nomatch q⟩
    · rw [List.mem_singleton.mp z]; exact ⟨o, ho, fun v q => by rw [hd] at q; cases q⟩
  keep := fun i h h' st k => let ⟨⟨old, he⟩, hi⟩ := st; ⟨⟨old, k e (by simp) _ he⟩, hi.at fun o q => k it (by simp) o q⟩
  item := by
    intro X q1 q2 q3 hc i pins s σ H E I hf st hg; subst q1 q2 q3
    obtain ⟨⟨old, he⟩, hit⟩ := st
    obtain ⟨xs, x, hq, hx⟩ := hg
    obtain ⟨its, vals_, p, _⟩ := I.tuple hq
    obtain ⟨u, hu, ru⟩ := vals_.get hx
    have at_ : its.toArray[i]? = some u := by simpa using hu
    have hlt : i < its.toArray.size := (Array.getElem?_eq_some_iff.mp at_).1
    have nt : ∀ b ∈ [e, it], a ≠ b := fun b hb z => by
      obtain ⟨o, ho, cl, _⟩ := p
      rcases List.mem_cons.mp hb with y | y
      · rw [z, y] at ho
        rw [show s.heap.get? e = _ from he] at ho; cases ho; injection cl with cl; exact absurd cl (by decide)
      · rw [z, List.mem_singleton.mp y] at ho
        obtain ⟨o2, ho2, cl2, _⟩ := hit
        rw [ho2] at ho; cases ho
        rw [cl2] at cl; injection cl with cl; exact absurd cl (by decide)
    have G := GoesN.enumFrom (elts := elts) (x1 := kk) (pos := tpos) 0 (Draws.tuple (prog := X.prog) (w := X.w) (A := X.A.in1) (I.ok.hd hc) it a (nt it (by simp)) its.toArray) e ne1 (by simp [ne1, (nt e (by simp)).symm]) (by simp)
    refine G.goes i s _ _ hlt ⟨⟨old, he⟩, hit, p⟩ fun v h2 tk hY st2 hk _ => ?_
    obtain ⟨T, t, u2, rfl, hn, hu2, hT⟩ := hY
    have eu : u2 = u := Option.some.inj (hu2.symm.trans at_)
    subst eu
    rw [Int.zero_add] at hT
    have new : ObjOk X.prog X.w (upd H T (.tup [.int (i : Nat), x])) h2 T (.tup [.int (i : Nat), x]) := ⟨by show 2 ≤ sizeLine; decide, [.int i t, u2], .cons ⟨_, rfl⟩ (.cons ru .nil), hT⟩
    have I1 : Inv X pins σ (upd H T (.tup [.int (i : Nat), x])) { s with heap := h2, toks := tk } := I.turnedNew (ch := [e, it]) (fun b ob hb q => hk b ob hb q) hf hn new
    refine ⟨.ref T, _, I1, rfl, ⟨T, x, rfl, I.hok.fresh hn, rfl, fun ys hy => by rw [I.tuple_inj hy hq]; exact hx⟩, ⟨st2.1, st2.2.1⟩, fun b hb => ?_⟩
    have hb0 := (hf b hb).1
    have hbT : b ≠ T := by
      rcases List.mem_cons.mp hb with y | y
      · rw [y]; exact Nat.ne_of_lt (Nat.lt_of_lt_of_le (Heap.lt_size he) hn)
      · rw [List.mem_singleton.mp y]
        obtain ⟨o2, ho2, _⟩ := hit
        exact Nat.ne_of_lt (Nat.lt_of_lt_of_le (Heap.lt_size ho2) hn)
    rw [upd_ne hbT]; exact hb0
  done := by
    intro X q1 q2 q3 hc i pins s σ H E I hf st hg; subst q1 q2 q3
    obtain ⟨⟨old, he⟩, hit⟩ := st
    obtain ⟨xs, hq, hx⟩ := hg
    obtain ⟨its, vals_, p, _⟩ := I.tuple hq
    have hl := vals_.length
    have nt : ∀ b ∈ [e, it], a ≠ b := fun b hb z => by
      obtain ⟨o, ho, cl, _⟩ := p
      rcases List.mem_cons.mp hb with y | y
      · rw [z, y] at ho
        rw [show s.heap.get? e = _ from he] at ho; cases ho; injection cl with cl; exact absurd cl (by decide)
      · rw [z, List.mem_singleton.mp y] at ho
        obtain ⟨o2, ho2, cl2, _⟩ := hit
        rw [ho2] at ho; cases ho
        rw [cl2] at cl; injection cl with cl; exact absurd cl (by decide)
    have G := GoesN.enumFrom (elts := elts) (x1 := kk) (pos := tpos) 0 (drawsEnd (prog := X.prog) (w := X.w) (A := X.A.in1) (I.ok.hd hc) it a its.toArray i (by simp; omega)) e ne1 (by simp [ne1, (nt e (by simp)).symm]) (by simp)
    exact G.stops s _ _ ⟨⟨old, he⟩, rfl, hit, p⟩ fun h2 tk hk _ => inv_ch I hk hf
  self := fun _ _ _ _ _ st fin => let ⟨⟨_, he⟩, _⟩ := st; wpAny_pyIter_enum he fin
/-- enumerate(v), v a list or a tuple -/
def iEnA (K : PySem.W.Frag) (ta : TA) : TI := fun σ H R => ta σ H fun vs H1 => ∃ a xs, vs = [.ref a] ∧ ((SqL K H1 a xs ∧ R (Ite K a) H1) ∨ (SqT K H1 a xs ∧ R (ItT K a) H1))
theorem pi_enA {X : Cx} {e : Expr} {ta : TA} {p pos tpos : Pos} {elts : List Expr} {kk : Nat} (hg : Gl X "enumerate") (hm : X.mg "enumerate" = none) (ha : PA X [e] ta) (hs : starEach [e] X.env = [(false, eval e X.env)] := by rfl) :
    PI X (.Tuple elts kk tpos) (.Call (.Name "enumerate" p) [e] [] pos) (iEnA X.K ta) := by
  refine ⟨fun pins s σ H R I hi => ?_⟩
  refine Call_ (ld_blt I hg hm boot_enumerate (PyProof.Rows.callWith_type1 (thn (ha.run pos pins s σ H _ I hi) fun us s1 ⟨vs, H1, I1, r1, q1⟩ => ?_) hs rfl))
  obtain ⟨a, xs, ex, q⟩ := q1
  subst ex
  cases r1 with
  | cons r rr =>
    cases rr; cases r
    rcases q with ⟨hq, q⟩ | ⟨hq, q⟩
    · obtain ⟨its, rv, p2, hz⟩ := I1.list hq
      refine call_enumerate_list p2.isList fun h2 he hit hsz hk => wpAny_pyIter_enum he ?_
      refine ⟨s1.heap.objs.size + 1, [s1.heap.objs.size + 1, s1.heap.objs.size], _, _, H1, rfl, I1.kept (t' := s1.toks) hk, turn_enum a (s1.heap.objs.size + 1) s1.heap.objs.size, ⟨⟨.none, he⟩, hit, Nat.succ_ne_self _⟩, fun b hb => ?_, q⟩
      have hge : s1.heap.objs.size ≤ b := by
        rcases List.mem_cons.mp hb with z | z
        · rw [z]; exact Nat.le_add_right _ _
        · rw [List.mem_singleton.mp z]; exact Nat.le_refl _
      exact I1.fpOk hge (I1.hok.fresh hge)
    · obtain ⟨its, rv, p2, hz⟩ := I1.tuple hq
      refine callType_new F.called_enumerate (by decide) (F.typeCall_enumerate_1 _) (F.newCall_enumerate_1 _) (fun obj => F.args_object_init_2 obj _) F.entry_enumerate_new (en_new (begins_tuple a its.toArray)) ⟨p2, ?_⟩
      have sz : (s1.heap.push { cls := .type "tuple_iterator", data := .fields #[.ref a, .int 0 0] }).objs.size = s1.heap.objs.size + 1 := Heap.size_push ..
      show _ ∧ _
      rw [sz]
      have he : IsEnum ((s1.heap.push { cls := .type "tuple_iterator", data := .fields #[.ref a, .int 0 0] }).push { cls := .type "enumerate", data := .fields #[.none, .bool false, .ref s1.heap.objs.size, rawInt 0, .none, .none] }) (s1.heap.objs.size + 1) s1.heap.objs.size (0 + ((0 : Nat) : Int)) .none := by
        have g := Heap.get?_push_size (s1.heap.push { cls := .type "tuple_iterator", data := .fields #[.ref a, .int 0 0] }) (o := { cls := .type "enumerate", data := .fields #[.none, .bool false, .ref s1.heap.objs.size, rawInt 0, .none, .none] }) rfl
        rw [sz] at g; exact g
      refine ⟨⟨_, he, rfl⟩, wpAny_pyIter_enum he ⟨s1.heap.objs.size + 1, [s1.heap.objs.size + 1, s1.heap.objs.size], _, _, H1, rfl, I1.kept (t' := s1.toks) (fun b o z => Heap.get?_push_of_some _ (Heap.get?_push_of_some _ z)), turn_enT a (s1.heap.objs.size + 1) s1.heap.objs.size (Nat.succ_ne_self _), ⟨⟨.none, he⟩, ⟨_, Heap.get?_push_of_some _ (Heap.get?_push_size _ rfl), rfl, rfl⟩⟩, fun b hb => ?_, q⟩⟩
      have hge : s1.heap.objs.size ≤ b := by
        rcases List.mem_cons.mp hb with z | z
        · rw [z]; exact Nat.le_add_right _ _
        · rw [List.mem_singleton.mp z]; exact Nat.le_refl _
      exact I1.fpOk hge (I1.hok.fresh hge)
theorem walk_enT {K : PySem.W.Frag} {a : Addr} {xs : List V} : Walk (ItT K a) xs.length (fun H => SqT K H a xs) (YPair (fun i => some (.int (i : Nat))) (fun i => xs[i]?)) := by
  refine ⟨fun i _ hi hs => ⟨xs, xs[i], hs, by simp [hi]⟩, fun _ hs => ⟨xs, hs, Nat.le_refl _⟩, fun i H v H2 _ hs y => ?_⟩
  obtain ⟨T, x, e1, e2, e3, e4⟩ := y
  exact ⟨T, .int (i : Nat), x, e1, e2, e3, rfl, e4 xs hs⟩
theorem ko_catA {X : Cx} {K : PySem.W.Frag} (h : X.K = K := by rfl) : OpR X (binaryOp .Add) (rCatA K) := h ▸ op_catA
theorem ki_enA {X : Cx} {K : PySem.W.Frag} {e : Expr} {ta : TA} {p pos tpos : Pos} {elts : List Expr} {kk : Nat} (hg : Gl X "enumerate") (hm : X.mg "enumerate" = none) (ha : PA X [e] ta) (hs : starEach [e] X.env = [(false, eval e X.env)] := by rfl) (h : X.K = K := by rfl)
    : PI X (.Tuple elts kk tpos) (.Call (.Name "enumerate" p) [e] [] pos) (iEnA K ta) := h ▸ pi_enA hg hm ha hs
end Pot

namespace Pot
open PySem PySem.Spec PyProof.Rows L2
open Sem (wp)
/-! ### zip of three lists of one length -/
def It3 (K : PySem.W.Frag) (a b c : Addr) : It :=
  ⟨fun i H => ∃ (xs ys zs : List V) (x y z : V), SqL K H a xs ∧ SqL K H b ys ∧ SqL K H c zs ∧ xs[i]? = some x ∧ ys[i]? = some y ∧ zs[i]? = some z,
   fun i H v H2 => ∃ T x y z, v = .ref T ∧ H T = none ∧ H2 = upd H T (.tup [x, y, z]) ∧ (∀ xs, SqL K H a xs → xs[i]? = some x) ∧ (∀ ys, SqL K H b ys → ys[i]? = some y) ∧ ∀ zs, SqL K H c zs → zs[i]? = some z,
   fun i H => ∃ xs ys zs : List V, SqL K H a xs ∧ SqL K H b ys ∧ SqL K H c zs ∧ xs.length ≤ i ∧ ys.length ≤ i ∧ zs.length ≤ i⟩
/-- an iterator of a list that has come to its end -/
theorem drawsEndL {prog : Program} {w : World} {A : Around} (hh : A.handled = none) (it t : Addr) (items : Array Value) (i : Nat) (hi : items[i]? = none) :
    Draws prog w A it [it, t] i (fun _ _ => False) (fun j h => j = i ∧ h.IsListIter it t j ∧ h.IsList t items) where
  live := fun _ _ st => let ⟨o, ho, _⟩ := st.2.1; ⟨o, ho⟩
  frame := fun _ _ _ st hk => ⟨st.1, st.2.1.at fun o e => hk it (by simp) o e, st.2.2.at fun o e => hk t (by simp) o e⟩
  item := fun j _ _ _ hj st _ => absurd st.1 (Nat.ne_of_lt hj)
  done := fun s Q E st hE => wpAny_nextOf_list_end hh st.2.1 st.2.2 hi hE
theorem turn_z3 {P : Program} {w : World} {K : PySem.W.Frag} {elts : List Expr} {kk : Nat} {tpos : Pos} {a b c z TI TO i1 i2 i3 : Addr} (D : ZipSep3 z TI TO i1 i2 i3 [i1, a] [i2, b] [i3, c]) (n1 : a ≠ i1) (n2 : b ≠ i2) (n3 : c ≠ i3) :
    Turn P w K (.Tuple elts kk tpos) (It3 K a b c) [z, TI, TO, i1, i2, i3] z (fun i h => IsZip h z TI TO .none ∧ IsTupOf3 h TI (.ref i1) (.ref i2) (.ref i3) ∧ (∃ x y u, IsTupOf3 h TO x y u) ∧ h.IsListIter i1 a i ∧ h.IsListIter i2 b i ∧ h.IsListIter i3 c i) where
  mem := by simp
  obj := fun i h st m hm => by
    obtain ⟨hz, hTI, ⟨x, y, u, hTO⟩, ⟨o1, e1, _, d1⟩, ⟨o2, e2, _, d2⟩, ⟨o3, e3, _, d3⟩⟩ := st
    simp only [List.mem_cons, List.not_mem_nil, or_false] at hm
    rcases hm with e | e | e | e | e | e
    · subst e; exact ⟨_, hz, fun v q => nomatch q⟩
    · subst e; exact ⟨_, hTI, fun v q => nomatch q⟩
    · subst e; exact ⟨_, hTO, fun v q => nomatch q⟩
    · subst e; exact ⟨o1, e1, fun v q => by rw [d1] at q; cases q⟩
    · subst e; exact ⟨o2, e2, fun v q => by rw [d2] at q; cases q⟩
    · subst e; exact ⟨o3, e3, fun v q => by rw [d3] at q; cases q⟩
  keep := fun i h h2 st k => by
    obtain ⟨hz, hTI, ⟨x, y, u, hTO⟩, g1, g2, g3⟩ := st
    exact ⟨k z (by simp) _ hz, k TI (by simp) _ hTI, ⟨x, y, u, k TO (by simp) _ hTO⟩, g1.at fun o q => k i1 (by simp) o q, g2.at fun o q => k i2 (by simp) o q, g3.at fun o q => k i3 (by simp) o q⟩
  item := by
    intro X q1 q2 q3 hc i pins s σ H E I hf st hg; subst q1 q2 q3
    obtain ⟨hz, hTI, ⟨x0, y0, u0, hTO⟩, g1, g2, g3⟩ := st
    obtain ⟨xs, ys, us, x, y, u, hqa, hqb, hqc, hx, hy, hu⟩ := hg
    obtain ⟨its1, vs1, p1, _⟩ := I.list hqa
    obtain ⟨its2, vs2, p2, _⟩ := I.list hqb
    obtain ⟨its3, vs3, p3, _⟩ := I.list hqc
    obtain ⟨w1, hw1, r1⟩ := vs1.get hx
    obtain ⟨w2, hw2, r2⟩ := vs2.get hy
    obtain ⟨w3, hw3, r3⟩ := vs3.get hu
    have at1 : its1.toArray[i]? = some w1 := by simpa using hw1
    have at2 : its2.toArray[i]? = some w2 := by simpa using hw2
    have at3 : its3.toArray[i]? = some w3 := by simpa using hw3
    have l1 : i < its1.toArray.size := (Array.getElem?_eq_some_iff.mp at1).1
    have l2 : i < its2.toArray.size := (Array.getElem?_eq_some_iff.mp at2).1
    have l3 : i < its3.toArray.size := (Array.getElem?_eq_some_iff.mp at3).1
    have hh := I.ok.hd hc
    have G := GoesN.zip3 (elts := elts) (x1 := kk) (pos := tpos) D (Draws.list (prog := X.prog) (w := X.w) (A := X.A.in1) hh i1 a n1 its1.toArray) (Draws.list (prog := X.prog) (w := X.w) (A := X.A.in1) hh i2 b n2 its2.toArray) (Draws.list (prog := X.prog) (w := X.w) (A := X.A.in1) hh i3 c n3 its3.toArray)
    refine G.goes i s _ _ (by omega) ⟨hz, hTI, ⟨x0, y0, u0, hTO⟩, ⟨g1, p1.isList⟩, ⟨g2, p2.isList⟩, ⟨g3, p3.isList⟩⟩ fun v h2 tk hY st2 hk _ => ?_
    obtain ⟨T, t1, t2, t3, rfl, hn, e1, e2, e3, hT⟩ := hY
    cases Option.some.inj (e1.symm.trans at1)
    cases Option.some.inj (e2.symm.trans at2)
    cases Option.some.inj (e3.symm.trans at3)
    have new : ObjOk X.prog X.w (upd H T (.tup [x, y, u])) h2 T (.tup [x, y, u]) := ⟨by show 3 ≤ sizeLine; decide, [w1, w2, w3], .cons r1 (.cons r2 (.cons r3 .nil)), hT⟩
    have I1 : Inv X pins σ (upd H T (.tup [x, y, u])) { s with heap := h2, toks := tk } := I.turnedNew (ch := [z, TI, TO, i1, i2, i3]) (fun m ob hm q => hk m ob (fun e => hm (by simp only [List.mem_cons, List.not_mem_nil, or_false] at e ⊢; rcases e with e | e | e | e | e <;> simp [e])) q) hf hn new
    refine ⟨.ref T, _, I1, rfl, ⟨T, x, y, u, rfl, I.hok.fresh hn, rfl, fun l hl => by rw [I.list_inj hl hqa]; exact hx, fun l hl => by rw [I.list_inj hl hqb]; exact hy, fun l hl => by rw [I.list_inj hl hqc]; exact hu⟩, ⟨st2.1, st2.2.1, st2.2.2.1, st2.2.2.2.1.1, st2.2.2.2.2.1.1, st2.2.2.2.2.2.1⟩, fun m hm => ?_⟩
    have hm0 := (hf m hm).1
    have live : ∃ o, s.heap.get? m = some o := by
      obtain ⟨o1, f1, _⟩ := g1
      obtain ⟨o2, f2, _⟩ := g2
      obtain ⟨o3, f3, _⟩ := g3
      simp only [List.mem_cons, List.not_mem_nil, or_false] at hm
      rcases hm with e | e | e | e | e | e
      · subst e; exact ⟨_, hz⟩
      · subst e; exact ⟨_, hTI⟩
      · subst e; exact ⟨_, hTO⟩
      · subst e; exact ⟨_, f1⟩
      · subst e; exact ⟨_, f2⟩
      · subst e; exact ⟨_, f3⟩
    obtain ⟨o, ho⟩ := live
    rw [upd_ne (Nat.ne_of_lt (Nat.lt_of_lt_of_le (Heap.lt_size ho) hn))]; exact hm0
  done := by
    intro X q1 q2 q3 hc i pins s σ H E I hf st hg; subst q1 q2 q3
    obtain ⟨hz, hTI, ⟨x0, y0, u0, hTO⟩, g1, g2, g3⟩ := st
    obtain ⟨xs, ys, us, hqa, hqb, hqc, hx, hy, hu⟩ := hg
    obtain ⟨its1, vs1, p1, _⟩ := I.list hqa
    obtain ⟨its2, vs2, p2, _⟩ := I.list hqb
    obtain ⟨its3, vs3, p3, _⟩ := I.list hqc
    have m1 := vs1.length
    have m2 := vs2.length
    have m3 := vs3.length
    have hh := I.ok.hd hc
    have G := GoesN.zip3 (elts := elts) (x1 := kk) (pos := tpos) D (drawsEndL (prog := X.prog) (w := X.w) (A := X.A.in1) hh i1 a its1.toArray i (by simp; omega)) (drawsEndL (prog := X.prog) (w := X.w) (A := X.A.in1) hh i2 b its2.toArray i (by simp; omega)) (drawsEndL (prog := X.prog) (w := X.w) (A := X.A.in1) hh i3 c its3.toArray i (by simp; omega))
    rw [Nat.min_self, Nat.min_self] at G
    exact G.stops s _ _ ⟨hz, hTI, ⟨x0, y0, u0, hTO⟩, ⟨rfl, g1, p1.isList⟩, ⟨rfl, g2, p2.isList⟩, ⟨rfl, g3, p3.isList⟩⟩ fun h2 tk hk _ => inv_ch (ch := [z, TI, TO, i1, i2, i3]) I (fun m o hm q => hk m o (fun e => hm (by simp only [List.mem_cons, List.not_mem_nil, or_false] at e ⊢; rcases e with e | e | e | e | e <;> simp [e])) q) hf
  self := fun _ _ _ _ _ st fin => wpAny_pyIter_zip st.1 fin
def iZip3 (K : PySem.W.Frag) (ta : TA) : TI := fun σ H R => ta σ H fun vs H1 => ∃ a b c xs ys zs, vs = [.ref a, .ref b, .ref c] ∧ SqL K H1 a xs ∧ SqL K H1 b ys ∧ SqL K H1 c zs ∧ R (It3 K a b c) H1
theorem pi_zip3 {X : Cx} {e e2 e3 : Expr} {ta : TA} {p pos tpos : Pos} {elts : List Expr} {kk : Nat} (hg : Gl X "zip") (hm : X.mg "zip" = none) (ha : PA X [e, e2, e3] ta)
    (hs : starEach [e, e2, e3] X.env = (false, eval e X.env) :: starEach [e2, e3] X.env := by rfl) (hpl : (backTo pos (starEach [e2, e3] X.env)).any (·.1) = false := by rfl) :
    PI X (.Tuple elts kk tpos) (.Call (.Name "zip" p) [e, e2, e3] [] pos) (iZip3 X.K ta) := by
  refine ⟨fun pins s σ H R I hi => ?_⟩
  refine Call_ (ld_blt I hg hm PyProof.Rows.boot_zip (PyProof.Rows.callWith_type1 (thn (ha.run pos pins s σ H _ I hi) fun us s1 ⟨vs, H1, I1, r1, q1⟩ => ?_) hs hpl))
  obtain ⟨a, b, c, xs, ys, zs, ex, qa, qb, qc, q⟩ := q1
  subst ex
  cases r1 with
  | cons ra rr =>
    cases rr with
    | cons rb rr =>
      cases rr with
      | cons rc rr =>
        cases rr; cases ra; cases rb; cases rc
        obtain ⟨its1, _, p1, _⟩ := I1.list qa
        obtain ⟨its2, _, p2, _⟩ := I1.list qb
        obtain ⟨its3, _, p3, _⟩ := I1.list qc
        refine zip_begins3 (begins_list a its1.toArray) (begins_list b its2.toArray) (begins_list c its3.toArray) p1.isList p2.isList p3.isList fun h2 hz hTI hTO f1 f2 f3 hsz hk => wpAny_pyIter_zip hz ?_
        have below : ∀ {l : Addr} {its : List Value} {n : Nat}, s1.heap.get? l = some { cls := .type "list", data := .seq its.toArray n } → ∀ m ∈ [l], m < s1.heap.objs.size := fun h m hm => by rw [List.mem_singleton.mp hm]; exact Heap.lt_size h
        refine ⟨s1.heap.objs.size + 5, [s1.heap.objs.size + 5, s1.heap.objs.size + 3, s1.heap.objs.size + 4, s1.heap.objs.size, s1.heap.objs.size + 1, s1.heap.objs.size + 2], _, _, H1, rfl, I1.kept (t' := s1.toks) hk, turn_z3 (zip_sep3 (N := s1.heap.objs.size) (fp1 := [a]) (fp2 := [b]) (fp3 := [c]) ?_ ?_ ?_) ?_ ?_ ?_, ⟨hz, hTI, ⟨_, _, _, hTO⟩, ⟨_, f1, rfl, rfl⟩, ⟨_, f2, rfl, rfl⟩, ⟨_, f3, rfl, rfl⟩⟩, fun m hm => ?_, q⟩
        · exact fun m hm => by rw [List.mem_singleton.mp hm]; exact p1.lt
        · exact fun m hm => by rw [List.mem_singleton.mp hm]; exact p2.lt
        · exact fun m hm => by rw [List.mem_singleton.mp hm]; exact p3.lt
        · exact Nat.ne_of_lt p1.lt
        · exact Nat.ne_of_lt (Nat.lt_of_lt_of_le p2.lt (Nat.le_add_right _ _))
        · exact Nat.ne_of_lt (Nat.lt_of_lt_of_le p3.lt (Nat.le_add_right _ _))
        · have hge : s1.heap.objs.size ≤ m := by
            simp only [List.mem_cons, List.not_mem_nil, or_false] at hm
            rcases hm with e | e | e | e | e | e <;> (rw [e]; first | exact Nat.le_refl _ | exact Nat.le_add_right _ _)
          exact I1.fpOk hge (I1.hok.fresh hge)
theorem ki_zip3 {X : Cx} {K : PySem.W.Frag} {e e2 e3 : Expr} {ta : TA} {p pos tpos : Pos} {elts : List Expr} {kk : Nat} (hg : Gl X "zip") (hm : X.mg "zip" = none) (ha : PA X [e, e2, e3] ta)
    (hs : starEach [e, e2, e3] X.env = (false, eval e X.env) :: starEach [e2, e3] X.env := by rfl) (hpl : (backTo pos (starEach [e2, e3] X.env)).any (·.1) = false := by rfl) (h : X.K = K := by rfl) :
    PI X (.Tuple elts kk tpos) (.Call (.Name "zip" p) [e, e2, e3] [] pos) (iZip3 K ta) := h ▸ pi_zip3 hg hm ha hs hpl
def Y3 (f g k : Nat → Option V) : Nat → Hp → V → Hp → Prop := fun i H v H2 => ∃ T x y z, v = .ref T ∧ H T = none ∧ H2 = upd H T (.tup [x, y, z]) ∧ f i = some x ∧ g i = some y ∧ k i = some z
theorem walk_z3 {K : PySem.W.Frag} {a b c : Addr} {xs ys zs : List V} (h1 : ys.length = xs.length) (h2 : zs.length = xs.length) : Walk (It3 K a b c) xs.length (fun H => SqL K H a xs ∧ SqL K H b ys ∧ SqL K H c zs) (Y3 (fun i => xs[i]?) (fun i => ys[i]?) (fun i => zs[i]?)) := by
  refine ⟨fun i _ hi hs => ⟨xs, ys, zs, xs[i], ys[i]'(by omega), zs[i]'(by omega), hs.1, hs.2.1, hs.2.2, by simp [hi], by simp [show i < ys.length by omega], by simp [show i < zs.length by omega]⟩, fun _ hs => ⟨xs, ys, zs, hs.1, hs.2.1, hs.2.2, by omega, by omega, by omega⟩, fun i H v H2 _ hs y => ?_⟩
  obtain ⟨T, x, y, z, e1, e2, e3, e4, e5, e6⟩ := y
  exact ⟨T, x, y, z, e1, e2, e3, e4 xs hs.1, e5 ys hs.2.1, e6 zs hs.2.2⟩
end Pot

namespace Pot
open PySem PySem.Spec PyProof.Rows L2
open PySem.Calls
open PySem.W (sortingHeap copyHeap sortLe alike alikeAll keyToks keyToksAll dataLt dataKind KatLex SortsAt sortVals dataType EachIs)
/-! ### sorted of rows that are told apart by parts that can be compared -/
/-- up to the first part in which they differ, that one too, two rows are alike -/
def okCmp : List PyData → List PyData → Bool
  | x :: xs, y :: ys => alike x y && (!PyData.eqv x y || okCmp xs ys)
  | [], [] => true
  | _, _ => false
section
variable {prog : Program} {w : World} {A : Around} {s : Shared}
theorem kat_ok {b fin : Bool} {Q : Bool → Shared → Prop} : ∀ (xs ys : List PyData) (i : Nat) (vs ws : List Value) (as bs : List Addr), ReadsAll s.heap vs xs as → ReadsAll s.heap ws ys bs → okCmp xs ys = true → A.units + min (PyData.depthAll xs) (PyData.depthAll ys) < cLine → (b = true → i = 0 → ∀ x r t, xs = x :: r → x ≠ .tuple t) → fin = decide (xs.length < ys.length) →
    Q (PyProof.Rows.lexLt itemOrd (keyToksAll xs) (keyToksAll ys)) s → KatLex prog w A b fin Q (vs.zip ws) i s := by
  intro xs
  induction xs with
  | nil =>
    intro ys i vs ws as bs ra rb ok hu hb hf hq
    have := PySem.W.katLex_alike (prog := prog) (w := w) (A := A) (s := s) (b := b) (fin := fin) (Q := Q) [] ys i vs ws as bs ra rb
    cases ys with
    | nil => exact this rfl hu hb hf hq
    | cons y ys => cases ok
  | cons x xs ih =>
    intro ys i vs ws as bs ra rb ok hu hb hf hq
    cases ys with
    | nil => cases ok
    | cons y ys =>
      obtain ⟨al, nx⟩ := Bool.and_eq_true_iff.mp ok
      have hf2 : fin = decide (xs.length < ys.length) := by rw [hf]; simp only [List.length_cons, Nat.add_lt_add_iff_right]
      cases ra with
      | cons r rs =>
        cases rb with
        | cons r2 rs2 =>
          rw [List.zip_cons_cons]
          refine PySem.W.kat_cons (PySem.W.eqAt_alike x y A s _ _ _ _ r r2 al (SeqAt.room_head hu) prog w _ _ ?_)
          cases ex : PyData.eqv x y with
          | true =>
            rw [PySem.W.dataLt_all_yes al ex] at hq
            rw [ex] at nx
            exact PySem.W.kat_yes (ih ys (i + 1) _ _ _ _ rs rs2 nx (SeqAt.room_tail hu) (fun _ h0 => absurd h0 (Nat.succ_ne_zero i)) hf2 hq)
          | false =>
            rw [PySem.W.dataLt_all_no al ex] at hq
            refine PySem.W.kat_no (PySem.W.oneLt_alike (fun hbi t => ?_) r r2 al (PySem.W.ne_none_of al ex) (SeqAt.room_head hu) hq)
            obtain ⟨b1, b2⟩ := Bool.and_eq_true_iff.mp hbi
            exact hb b1 (by simpa using b2) x xs t rfl
theorem key_of {h : Heap} {ds : List PyData} {v : Value} {d : PyData} {as : List Addr} (hd : d ∈ ds) (r : Reads h v d as) : (dataKind h ds).keyOf v = some (keyToks d) := by
  have ex : ∃ e, e ∈ ds ∧ ∃ bs, Reads h v e bs := ⟨d, hd, as, r⟩
  have eq1 : (dataKind h ds).keyOf v = some (keyToks ex.choose) := dif_pos ex
  obtain ⟨_, bs, r2⟩ := ex.choose_spec
  rw [eq1, (Reads.unique r2 _ _ r).1]
/-- rows that can be sorted: tuples with a first part, the first parts alike, each two comparable -/
structure RowsCmp (ds : List PyData) : Prop where
  form : ∀ d ∈ ds, ∃ x r, d = .tuple (x :: r)
  first : ∀ x r x2 r2, PyData.tuple (x :: r) ∈ ds → PyData.tuple (x2 :: r2) ∈ ds → alike x x2 = true
  cmp : ∀ xs ys, PyData.tuple xs ∈ ds → PyData.tuple ys ∈ ds → okCmp xs ys = true
theorem sorts_rows {vs : List Value} {ds : List PyData} (e : EachIs (fun v d => ∃ as, Reads s.heap v d as) vs ds) (W : RowsCmp ds) (hu : ∀ d, d ∈ ds → A.units + d.depth < cLine) : SortsAt prog w A s (dataKind s.heap ds) vs := by
  refine ⟨fun v hv => ?_, ?_⟩
  · obtain ⟨d, hd, as, r⟩ := e.left v hv
    exact ⟨_, key_of hd r⟩
  · cases hds : ds with
    | nil =>
      rw [hds] at e
      cases e
      exact ⟨general', fun E x y a b Q ha _ _ => (by obtain ⟨d, _, hd, _⟩ := PySem.W.dataKind_inv ha; exact absurd hd (by simp)), fun h2 => absurd h2 (by simp)⟩
    | cons d0 ds0 =>
      rw [← hds]
      have m0 : d0 ∈ ds := by rw [hds]; exact List.mem_cons_self
      obtain ⟨x0, r0, e0⟩ := W.form d0 m0
      have m0 : PyData.tuple (x0 :: r0) ∈ ds := by rw [← e0]; exact m0
      refine ⟨tuples' (dataType x0 != Value.type "tuple"), ?_, fun h2 E Q hq => ?_⟩
      · intro E x y a b Q ha hb hq
        obtain ⟨d, as, hd, ra, rfl⟩ := PySem.W.dataKind_inv ha
        obtain ⟨d2, as2, hd2, rb, rfl⟩ := PySem.W.dataKind_inv hb
        obtain ⟨x1, r1, rfl⟩ := W.form d hd
        obtain ⟨x2, r2, rfl⟩ := W.form d2 hd2
        have room : A.units + min (PyData.tuple (x1 :: r1)).depth (PyData.tuple (x2 :: r2)).depth < cLine := Nat.lt_of_le_of_lt (Nat.add_le_add_left (Nat.min_le_left _ _) _) (hu _ hd)
        have hq2 : Q (dataLt (.tuple (x1 :: r1)) (.tuple (x2 :: r2))) s := hq
        rw [PySem.W.dataLt_tuple] at hq2
        cases ra with
        | @tuple l o us n _ _ h1 h2 h3 h4 =>
          cases rb with
          | @tuple l2 o2 us2 n2 _ _ k1 k2 k3 k4 =>
            have z1 : us.size = (x1 :: r1).length := by simpa using SeqAt.ReadsAll.length _ _ _ h4
            have z2 : us2.size = (x2 :: r2).length := by simpa using SeqAt.ReadsAll.length _ _ _ k4
            refine PySem.W.kat_lt h1 h3 k1 k3 (kat_ok (prog := prog) (w := w) (A := A) (s := s) (x1 :: r1) (x2 :: r2) 0 _ _ _ _ h4 k4 (W.cmp _ _ hd hd2) (by have := SeqAt.room_in room; omega) (fun hb1 _ xx rr t ex => ?_) (by rw [z1, z2]) hq2)
            obtain ⟨rfl, rfl⟩ := List.cons.inj ex
            rw [← PySem.W.dataType_alike (W.first _ _ _ _ hd m0)] at hb1
            exact PySem.W.dataType_tuple hb1 t
      · obtain ⟨fs, t1, t2, t3⟩ := PySem.W.each_katTups e W.form
        refine PySem.W.kat_kind (T := dataType x0) t1 (by omega) (fun f hf => ?_) (beq_self_eq_true _) hq
        obtain ⟨xx, rr, as, m1, m2⟩ := t3 f hf
        rw [← PySem.W.dataType_alike (W.first _ _ _ _ m1 m0)]
        exact PySem.W.looks_reads m2
end
theorem perm_lift {α β : Type} (f : α → β) {out l : List β} (h : out.Perm l) : ∀ L : List α, L.map f = l → ∃ L2 : List α, L2.Perm L ∧ L2.map f = out := by
  induction h with
  | nil => intro L e; exact ⟨L, .refl _, e⟩
  | cons x _ ih =>
    intro L e
    cases L with
    | nil => cases e
    | cons y L =>
      obtain ⟨e1, e2⟩ := List.cons.inj e
      obtain ⟨L2, p2, m2⟩ := ih L e2
      exact ⟨y :: L2, p2.cons y, by rw [List.map_cons, m2, e1]⟩
  | swap x y l =>
    intro L e
    match L, e with
    | a :: b :: L, e =>
      obtain ⟨e1, e2⟩ := List.cons.inj e
      obtain ⟨e2, e3⟩ := List.cons.inj e2
      exact ⟨b :: a :: L, .swap a b L, by rw [List.map_cons, List.map_cons, e1, e2, e3]⟩
  | trans _ _ ih1 ih2 =>
    intro L e
    obtain ⟨L2, p2, m2⟩ := ih2 L e
    obtain ⟨L3, p3, m3⟩ := ih1 L2 m2
    exact ⟨L3, p3.trans p2, m3⟩
section
variable {X : Cx} {K : PySem.W.Frag}
theorem each_reads {pins : List (Addr × Obj)} {σ : L2.St} {H : Hp} {s : Shared} (I : Inv X pins σ H s) : ∀ {xs : List V} {its : List Value} {ds : List PyData}, Vals xs its → DpAll X.K H xs ds → ∃ L : List (Value × V × PyData), L.map (·.1) = its ∧ L.map (·.2.1) = xs ∧ L.map (·.2.2) = ds ∧ ∀ t ∈ L, RelV t.2.1 t.1 ∧ Dp X.K H t.2.1 t.2.2
  | _, _, _, .nil, .nil => ⟨[], rfl, rfl, rfl, fun _ h => (List.not_mem_nil h).elim⟩
  | _, _, _, .cons (a := x) (b := u) r rs, .cons (d := d) p ps => by
    obtain ⟨L, h1, h2, h3, h4⟩ := each_reads I rs ps
    refine ⟨(u, x, d) :: L, by rw [List.map_cons, h1], by rw [List.map_cons, h2], by rw [List.map_cons, h3], fun t ht => ?_⟩
    rcases List.mem_cons.mp ht with e | e
    · rw [e]; exact ⟨r, p⟩
    · exact h4 t e
/-- sorted of a list of rows: a new list of the same ones -/
def rSortedR (K : PySem.W.Frag) : List V → Hp → VK → Prop := fun vs H Q => ∃ (a : Addr) (xs : List V) (ds : List PyData), vs = [V.ref a] ∧ SqL K H a xs ∧ DpAll K H xs ds ∧ RowsCmp ds ∧ (∀ d ∈ ds, d.depth ≤ 60) ∧
  ∀ (zs : List V) (es : List PyData) (p : Addr), DpAll K H zs es → es.Perm ds → H p = none → Q (.ref p) (upd H p (.lst zs))
theorem cr_sortedR (hu : X.A.units + 70 < cLine) : CallR X (.builtin "sorted") (rSortedR X.K) := by
  intro pins s σ H vs0 us0 Q I r h
  obtain ⟨a, xs, ds, rfl, hs, da, W, dep, q⟩ := h
  obtain ⟨its, rv, hl, hz⟩ := I.list hs
  rw [Vals.ref1 r]
  obtain ⟨L, e1, e2, e3, all⟩ := each_reads I rv da
  have er : EachIs (fun v d => ∃ as, Reads s.heap v d as) its ds := by
    rw [← e1, ← e3]
    clear e1 e2 e3
    induction L with
    | nil => exact .nil
    | cons t L ih =>
      have ht := all t List.mem_cons_self
      exact .cons (Dp.reads I _ _ _ ht.2 ht.1) (ih fun x hx => all x (List.mem_cons_of_mem _ hx))
  have ll : its.length = xs.length := by rw [← e1, ← e2, List.length_map, List.length_map]
  have ln : its.length ≤ sizeLine := by rw [ll]; exact hz
  have er' : EachIs (fun v d => ∃ as, Reads (sortingHeap (copyHeap s.heap its) (s.heap.objs.size + 1) its) v d as) its ds := er.mono fun _ _ ⟨as, r⟩ => ⟨as, PyProof.Rows.Reads.keeps (fun _ _ => PySem.W.sorting_copy_old) r⟩
  have S := sorts_rows (prog := X.prog) (w := X.w) (A := X.A.in1.in1) (s := { s with heap := sortingHeap (copyHeap s.heap its) (s.heap.objs.size + 1) its }) er' W (fun d hd => by have := dep d hd; simp only [Around.in1]; omega)
  refine PySem.W.sorted_vals hl.isList S ln ?_
  generalize eo : sortVals _ false its its = out
  have po : out.Perm its := by
    rw [← eo]
    unfold sortVals
    have := (List.mergeSort_perm (its.zip its) (sortLe (dataKind (sortingHeap (copyHeap s.heap its) (s.heap.objs.size + 1) its) ds).toKeyOrd false fun p : Keyed => PySem.W.keyD (dataKind (sortingHeap (copyHeap s.heap its) (s.heap.objs.size + 1) its) ds) p.1)).map Prod.snd
    rw [List.map_snd_zip (Nat.le_refl _)] at this
    exact this
  obtain ⟨L2, p2, m2⟩ := perm_lift (·.1) po L e1
  have rv2 : Vals (L2.map (·.2.1)) out := by
    rw [← m2]
    clear m2
    have hh : ∀ t ∈ L2, RelV t.2.1 t.1 := fun t ht => (all t (p2.mem_iff.mp ht)).1
    clear p2
    induction L2 with
    | nil => exact .nil
    | cons t L2 ih => exact .cons (hh t List.mem_cons_self) (ih fun x hx => hh x (List.mem_cons_of_mem _ hx))
  have dp2 : DpAll X.K H (L2.map (·.2.1)) (L2.map (·.2.2)) := by
    have hh : ∀ t ∈ L2, Dp X.K H t.2.1 t.2.2 := fun t ht => (all t (p2.mem_iff.mp ht)).2
    clear p2 m2 rv2
    induction L2 with
    | nil => exact .nil
    | cons t L2 ih => exact .cons (hh t List.mem_cons_self) (ih fun x hx => hh x (List.mem_cons_of_mem _ hx))
  have pd : (L2.map (·.2.2)).Perm ds := by rw [← e3]; exact p2.map _
  obtain ⟨ep, hat⟩ := PyProof.Rows.sortedAll_at s.heap its out.toArray
  have fr : H (s.heap.objs.size + 1) = none := I.hok.fresh (Nat.le_succ _)
  exact ⟨.ref _, upd H (s.heap.objs.size + 1) (.lst (L2.map (·.2.1))), I.laid (t' := s.toks) (fun _ _ => PyProof.Rows.sortedAll_old) (Nat.le_succ _) ⟨by rw [List.length_map, p2.length_eq, ← List.length_map (f := fun x : Value × V × PyData => x.1), e1]; exact ln, out, ep, rv2, hat⟩, rfl, q _ _ _ dp2 pd fr⟩
theorem kc_sortedR (hu : X.A.units + 70 < cLine) (h : X.K = K := by rfl) : CallR X (.builtin "sorted") (rSortedR K) := h ▸ cr_sortedR hu
end
end Pot

namespace Pot
open PySem PySem.Spec PyProof.Rows L2
/-! ### a box of three numbers: the second below 2 ^ 62, the last at most n -/
def Bp (H : Hp) (b : Addr) (n : Nat) : Prop := ∃ x y z : Int, H b = some (.lst [.int x, .int y, .int z]) ∧ 0 ≤ z ∧ z ≤ n ∧ 0 ≤ y ∧ y < 2 ^ 62
section
variable {H H' : Hp} {b p : Addr} {n m : Nat} {o : HO}
theorem Bp.bx (B : Bp H b n) : Bx H b := by
  obtain ⟨x, y, z, h, _⟩ := B
  exact ⟨x, y, z, h⟩
theorem Bp.same (B : Bp H b n) (s : Same H H') : Bp H' b n := by
  obtain ⟨x, y, z, h, h2⟩ := B
  exact ⟨x, y, z, s _ _ h, h2⟩
theorem Bp.put (B : Bp H b n) (h : H p = none) : Bp (upd H p o) b n := B.same (same_upd h)
theorem Bp.wr (B : Bp H b n) (h : p ≠ b) : Bp (upd H p o) b n := by
  obtain ⟨x, y, z, e, h2⟩ := B
  exact ⟨x, y, z, by rw [upd_ne h.symm]; exact e, h2⟩
theorem Bp.mono (B : Bp H b n) (h : n ≤ m) : Bp H b m := by
  obtain ⟨x, y, z, e, h1, h2, h3⟩ := B
  exact ⟨x, y, z, e, h1, by omega, h3⟩
theorem Bp.ne (B : Bp H b n) (h : H p = none) : p ≠ b := B.bx.ne h
theorem Live.pw (B : Bp H b n) : Live [b] H := Live.one B.bx
end
end Pot

namespace Pot
open PySem PySem.Spec PyProof.Rows L2
/-! ### the names of cluster C: unlike each other -/
def Nm (z : Str) : Prop := Wd 8 z ∧ 0 < z.length
def ltN (x : Int) : Str := ⟨#[97 + x.toNat]⟩
theorem str_app (a b : Str) : (a ++ b).cps.toList = a.cps.toList ++ b.cps.toList := by
  show (a.cps ++ b.cps).toList = _
  simp
theorem str_eq {a b : Str} (h : a = b) : a.cps.toList = b.cps.toList := by rw [h]
theorem ltN_list (x : Int) : (ltN x).cps.toList = [97 + x.toNat] := rfl
theorem ltN_len (x : Int) : (ltN x).length = 1 := rfl
def vlN (fi stp : Int) (i : Nat) : Int := (fi + stp * (0 + (i : Int))) % 676
def bsN (hd tl : Str) (fi stp : Int) (i : Nat) : Str := hd ++ ltN (vlN fi stp i / 26) ++ ltN (vlN fi stp i % 26) ++ tl
def nmN (hd tl : Str) (fi stp lo : Int) (i : Nat) : Str := if lo = 1 ∧ i % 2 = 1 then bsN hd tl fi stp (i - 1) ++ ltN ((fi + (0 + (i : Int))) % 26) else bsN hd tl fi stp i
def StpN (s : Int) : Prop := s = 1 ∨ s = 3 ∨ s = 5 ∨ s = 7 ∨ s = 25 ∨ s = 675
theorem vlN_pos (fi stp : Int) (i : Nat) : 0 ≤ vlN fi stp i ∧ vlN fi stp i < 676 := ⟨Int.emod_nonneg _ (by decide), Int.emod_lt_of_pos _ (by decide)⟩
theorem bsN_len (hd tl : Str) (fi stp : Int) (i : Nat) : (bsN hd tl fi stp i).length = hd.length + 2 + tl.length := by
  unfold bsN
  rw [strLen_append, strLen_append, strLen_append, ltN_len, ltN_len]
theorem bsN_wd {hd tl : Str} (h1 : Wd 3 hd) (h2 : Wd 2 tl) (fi stp : Int) (i : Nat) : Wd 7 (bsN hd tl fi stp i) ∧ 0 < (bsN hd tl fi stp i).length := by
  have := vlN_pos fi stp i
  refine ⟨wd_add (wd_add (wd_add h1 (wd_letter (by omega) (by omega))) (wd_letter (by omega) (by omega))) h2, ?_⟩
  rw [bsN_len]; omega
theorem nmN_nm {hd tl : Str} (h1 : Wd 3 hd) (h2 : Wd 2 tl) (fi stp lo : Int) (i : Nat) : Nm (nmN hd tl fi stp lo i) := by
  unfold nmN
  have l0 : 0 ≤ (fi + (0 + (i : Int))) % 26 := Int.emod_nonneg _ (by decide)
  have l1 : (fi + (0 + (i : Int))) % 26 < 26 := Int.emod_lt_of_pos _ (by decide)
  by_cases h : lo = 1 ∧ i % 2 = 1
  · rw [if_pos h]
    have b := bsN_wd h1 h2 fi stp (i - 1)
    exact ⟨wd_add b.1 (wd_letter l0 l1), by rw [strLen_append]; have := b.2; omega⟩
  · rw [if_neg h]
    have b := bsN_wd h1 h2 fi stp i
    exact ⟨b.1.mono (by decide), b.2⟩
theorem stp_inj {fi stp : Int} (s : StpN stp) {i j : Nat} (hi : i < 12) (hj : j < 12) (h : vlN fi stp i = vlN fi stp j) : i = j := by
  unfold vlN at h
  rcases s with rfl | rfl | rfl | rfl | rfl | rfl <;> omega
theorem stp_inj26 {fi stp : Int} (s : StpN stp) {i j : Nat} (hi : i < 12) (hj : j < 12) (h : (fi + stp * (0 + (i : Int))) % 26 = (fi + stp * (0 + (j : Int))) % 26) : i = j := by
  rcases s with rfl | rfl | rfl | rfl | rfl | rfl <;> omega
theorem bsN_inj {hd tl : Str} {fi stp : Int} (s : StpN stp) {i j : Nat} (hi : i < 12) (hj : j < 12) (h : bsN hd tl fi stp i = bsN hd tl fi stp j) : i = j := by
  have h2 := str_eq h
  unfold bsN at h2
  simp only [str_app, ltN_list, List.append_assoc, List.append_cancel_left_eq, List.cons_append, List.nil_append, List.cons.injEq] at h2
  have a := vlN_pos fi stp i
  have b := vlN_pos fi stp j
  exact stp_inj (fi := fi) s hi hj (by omega)
theorem nmN_inj {hd tl : Str} {fi stp lo : Int} (s : StpN stp) {i j : Nat} (hi : i < 12) (hj : j < 12) (h : nmN hd tl fi stp lo i = nmN hd tl fi stp lo j) : i = j := by
  unfold nmN at h
  by_cases c1 : lo = 1 ∧ i % 2 = 1 <;> by_cases c2 : lo = 1 ∧ j % 2 = 1
  · rw [if_pos c1, if_pos c2] at h
    have h2 := str_eq h
    rw [str_app, str_app] at h2
    have l : (bsN hd tl fi stp (i - 1)).cps.toList.length = (bsN hd tl fi stp (j - 1)).cps.toList.length := by
      have e1 := bsN_len hd tl fi stp (i - 1)
      have e2 := bsN_len hd tl fi stp (j - 1)
      rw [Array.length_toList, Array.length_toList]
      exact e1.trans e2.symm
    have h3 := (List.append_inj h2 l).1
    have h4 : bsN hd tl fi stp (i - 1) = bsN hd tl fi stp (j - 1) := by
      cases e1 : bsN hd tl fi stp (i - 1) with
      | mk x => cases e2 : bsN hd tl fi stp (j - 1) with
        | mk y =>
          rw [e1, e2] at h3
          exact congrArg Str.mk (Array.toList_inj.mp h3)
    have := bsN_inj s (i := i - 1) (j := j - 1) (by omega) (by omega) h4
    omega
  · rw [if_pos c1, if_neg c2] at h
    have := congrArg Str.length h
    rw [strLen_append, bsN_len, bsN_len, ltN_len] at this
    omega
  · rw [if_neg c1, if_pos c2] at h
    have := congrArg Str.length h
    rw [strLen_append, bsN_len, bsN_len, ltN_len] at this
    omega
  · rw [if_neg c1, if_neg c2] at h
    exact bsN_inj s hi hj h
theorem nodup_map_range {f : Nat → Str} {m : Nat} (h : ∀ i j, i < m → j < m → f i = f j → i = j) : ((List.range m).map f).Nodup := by
  rw [List.Nodup, List.pairwise_map]
  refine List.Pairwise.imp_of_mem (fun {a b} ha hb hab e => ?_) (List.nodup_range (n := m))
  exact hab (h a b (List.mem_range.mp ha) (List.mem_range.mp hb) e)
theorem nmN_nodup {hd tl : Str} {fi stp lo : Int} (s : StpN stp) {m : Nat} (hm : m ≤ 12) : ((List.range m).map (nmN hd tl fi stp lo)).Nodup :=
  nodup_map_range fun i j hi hj h => nmN_inj s (by omega) (by omega) h
theorem letN_nodup {fi stp : Int} (s : StpN stp) {m : Nat} (hm : m ≤ 12) : ((List.range m).map fun i : Nat => ltN ((fi + stp * (0 + (i : Int))) % 26)).Nodup :=
  nodup_map_range fun i j hi hj h => by
    have h2 := str_eq h
    rw [ltN_list, ltN_list] at h2
    have h3 := (List.cons.inj h2).1
    have a0 : 0 ≤ (fi + stp * (0 + (i : Int))) % 26 := Int.emod_nonneg _ (by decide)
    have b0 : 0 ≤ (fi + stp * (0 + (j : Int))) % 26 := Int.emod_nonneg _ (by decide)
    exact stp_inj26 (fi := fi) s (by omega) (by omega) (by omega)
def wordsN : List Str := ["never", "at", "undo", "slots", "done", "wash", "pot", "kind", "fill", "gather", "team", "colour"]
theorem words_eq : Txt.split (Str.ofString "never at undo slots done wash pot kind fill gather team colour") (Str.ofString " ") = wordsN := by decide +kernel
theorem words_nm : ∀ z ∈ wordsN, Nm z := by
  unfold Nm Wd wordsN
  decide +kernel
theorem words_nodup : ∀ j : Nat, j < 12 → ((wordsN ++ wordsN).drop j |>.take 12).Nodup := by
  unfold wordsN
  decide +kernel
theorem words_cut {j m : Nat} (hj : j < 12) (hm : m ≤ 12) : ((wordsN ++ wordsN).drop j |>.take m).Nodup ∧ ((wordsN ++ wordsN).drop j |>.take m).length = m ∧ ∀ z ∈ ((wordsN ++ wordsN).drop j |>.take m), Nm z := by
  refine ⟨?_, ?_, fun z hz => ?_⟩
  · have := words_nodup j hj
    have e : ((wordsN ++ wordsN).drop j |>.take m) = (((wordsN ++ wordsN).drop j |>.take 12).take m) := by rw [List.take_take, Nat.min_eq_left hm]
    rw [e]
    exact this.sublist (List.take_sublist _ _)
  · rw [List.length_take, List.length_drop, List.length_append]
    show min m (12 + 12 - j) = m
    omega
  · have := List.mem_of_mem_drop (List.mem_of_mem_take hz)
    exact (List.mem_append.mp this).elim (words_nm z) (words_nm z)
theorem wd1_sum : ∀ {l : List Str}, (∀ y ∈ l, Wd 1 y) → (l.map (·.length)).sum ≤ l.length
  | [], _ => Nat.le_refl _
  | a :: r, h => by
    have h1 := (h a List.mem_cons_self).1
    have h2 := wd1_sum (l := r) fun y hy => h y (List.mem_cons_of_mem _ hy)
    simp only [List.map_cons, List.sum_cons, List.length_cons]
    omega
end Pot

namespace Pot
open PySem PySem.Spec PyProof.Rows L2
/-! ### the palettes of cluster C -/
structure PalC (cs : List Col) (ws : List Wsh) : Prop where
  ok : PalOk cs ws
  ne : 0 < cs.length
  le : cs.length ≤ 12
  ch : ∀ c ∈ cs, 1 ≤ c.2.1 ∧ c.2.1 ≤ 20 ∧ 0 ≤ c.2.2.1 ∧ c.2.2.1 ≤ 99
  wa : ∀ r ∈ ws, ∀ i, r.2.2 = some i → 0 ≤ i ∧ i ≤ 99
  wd : ∀ c ∈ cs, Nm c.1
  nd : (cs.map (·.1)).Nodup
  wp : (ws.map fun r => (r.1, r.2.1)).Nodup
  wn : ∀ r ∈ ws, r.1 ≠ r.2.1
/-- what stands while a palette is made: the names at N, colours at C, washes at W -/
structure PMc (K : PySem.W.Frag) (H0 : Hp) (b C W N : Addr) (ns : List Str) (n : Nat) (xs us : List V) (cs : List Col) (ws : List Wsh) (H : Hp) : Prop where
  st : Bp H b n
  sm : Sm [b] H0 H
  hN : off H [C, W, b] N = some (.lst (ns.map V.str))
  hC : H C = some (.lst xs)
  dC : DpAll K (off H [C, W, b]) xs (cs.map colD)
  hW : H W = some (.lst us)
  dW : DpAll K (off H [C, W, b]) us (ws.map washD)
structure PAc (H0 : Hp) (b C W : Addr) : Prop where
  Cb : C ≠ b
  Wb : W ≠ b
  CW : C ≠ W
  nC : H0 C = none
  nW : H0 W = none
section
variable {K : PySem.W.Frag} {H0 H H' : Hp} {b C W N p : Addr} {ns : List Str} {n m : Nat} {xs us : List V} {cs : List Col} {ws : List Wsh} {o : HO}
theorem PMc.live (P : PMc K H0 b C W N ns n xs us cs ws H) : Live [C, W, b] H := ((Live.pw P.st).cons P.hW).cons P.hC
theorem PMc.drawn (P : PMc K H0 b C W N ns n xs us cs ws H) (a : PAc H0 b C W) (st : Bp H' b m) (s : Sm [b] H H') : PMc K H0 b C W N ns m xs us cs ws H' :=
  have s2 : Sm [C, W, b] H H' := sm_one (by simp) s
  ⟨st, P.sm.trans s, s2 _ _ P.hN, sm1_at s a.Cb P.hC, dpAll_same s2 P.dC, sm1_at s a.Wb P.hW, dpAll_same s2 P.dW⟩
theorem PMc.same (P : PMc K H0 b C W N ns n xs us cs ws H) (s : Same H H') : PMc K H0 b C W N ns n xs us cs ws H' :=
  have s2 : Sm [C, W, b] H H' := sm_of s
  ⟨P.st.same s, P.sm.trans (sm_of s), s2 _ _ P.hN, s _ _ P.hC, dpAll_same s2 P.dC, s _ _ P.hW, dpAll_same s2 P.dW⟩
theorem PMc.put (P : PMc K H0 b C W N ns n xs us cs ws H) (h : H p = none) : PMc K H0 b C W N ns n xs us cs ws (upd H p o) := P.same (same_upd h)
theorem PMc.mono (P : PMc K H0 b C W N ns n xs us cs ws H) (h : n ≤ m) : PMc K H0 b C W N ns m xs us cs ws H := ⟨P.st.mono h, P.sm, P.hN, P.hC, P.dC, P.hW, P.dW⟩
theorem PMc.colour (P : PMc K H0 b C W N ns n xs us cs ws H) (a : PAc H0 b C W) {v : V} {r : Col} (hv : Dp K (off H [C, W, b]) v (colD r)) : PMc K H0 b C W N ns n (xs ++ [v]) us (cs ++ [r]) ws (upd H C (.lst (xs ++ [v]))) :=
  have s2 : Sm [C, W, b] H (upd H C (.lst (xs ++ [v]))) := sm_wr (by simp)
  ⟨P.st.wr a.Cb, smp P.sm a.nC, s2 _ _ P.hN, upd_same, by rw [List.map_append]; exact dpAll_same s2 (dpAll_app P.dC (.cons hv .nil)), by rw [upd_ne a.CW.symm]; exact P.hW, dpAll_same s2 P.dW⟩
theorem PMc.wash (P : PMc K H0 b C W N ns n xs us cs ws H) (a : PAc H0 b C W) {v : V} {r : Wsh} (hv : Dp K (off H [C, W, b]) v (washD r)) : PMc K H0 b C W N ns n xs (us ++ [v]) cs (ws ++ [r]) (upd H W (.lst (us ++ [v]))) :=
  have s2 : Sm [C, W, b] H (upd H W (.lst (us ++ [v]))) := sm_wr (by simp)
  ⟨P.st.wr a.Wb, smp P.sm a.nW, s2 _ _ P.hN, by rw [upd_ne a.CW]; exact P.hC, dpAll_same s2 P.dC, upd_same, by rw [List.map_append]; exact dpAll_same s2 (dpAll_app P.dW (.cons hv .nil))⟩
end
theorem rows_cols (cs : List Col) : RowsCmp (cs.map colD) := by
  refine ⟨fun d hd => ?_, fun x r x2 r2 h1 h2 => ?_, fun xs ys h1 h2 => ?_⟩
  · obtain ⟨c, _, rfl⟩ := List.mem_map.mp hd
    exact ⟨_, _, rfl⟩
  · obtain ⟨c, _, e⟩ := List.mem_map.mp h1
    obtain ⟨c2, _, e2⟩ := List.mem_map.mp h2
    obtain ⟨rfl, _⟩ := List.cons.inj (PyData.tuple.inj e)
    obtain ⟨rfl, _⟩ := List.cons.inj (PyData.tuple.inj e2)
    rfl
  · obtain ⟨c, _, e⟩ := List.mem_map.mp h1
    obtain ⟨c2, _, e2⟩ := List.mem_map.mp h2
    rw [← PyData.tuple.inj e, ← PyData.tuple.inj e2]
    have a1 : ∀ x y : Str, PySem.W.alike (.str x) (.str y) = true := fun _ _ => rfl
    have a2 : ∀ x y : Int, PySem.W.alike (.int x) (.int y) = true := fun _ _ => rfl
    simp only [okCmp, a1, a2, Bool.true_and, Bool.or_true, Bool.and_true]
theorem depth_col (c : Col) : (colD c).depth ≤ 60 := by
  show PyData.depthAll _ + 1 ≤ 60
  simp only [PyData.depthAll, PyData.depth]
  omega
theorem depth_wash (r : Wsh) : (washD r).depth ≤ 60 := by
  show PyData.depthAll _ + 1 ≤ 60
  cases h : r.2.2 <;> (simp only [PyData.depthAll, PyData.depth, optD]; omega)
theorem alike_opt (o : Option Int) : PySem.W.alike (optD o) (optD o) = true := by cases o <;> rfl
theorem pair_eq {ws : List Wsh} (h : (ws.map fun r => (r.1, r.2.1)).Nodup) {r r2 : Wsh} (h1 : r ∈ ws) (h2 : r2 ∈ ws) (e1 : r.1 = r2.1) (e2 : r.2.1 = r2.2.1) : r = r2 := by
  obtain ⟨i, hi, rfl⟩ := List.getElem_of_mem h1
  obtain ⟨j, hj, rfl⟩ := List.getElem_of_mem h2
  have := (List.getElem_inj (i := i) (j := j) (h₀ := by rw [List.length_map]; exact hi) (h₁ := by rw [List.length_map]; exact hj) h).mp (by rw [List.getElem_map, List.getElem_map]; exact Prod.ext e1 e2)
  subst this; rfl
theorem rows_wash {ws : List Wsh} (h : (ws.map fun r => (r.1, r.2.1)).Nodup) : RowsCmp (ws.map washD) := by
  refine ⟨fun d hd => ?_, fun x r x2 r2 h1 h2 => ?_, fun xs ys h1 h2 => ?_⟩
  · obtain ⟨c, _, rfl⟩ := List.mem_map.mp hd
    exact ⟨_, _, rfl⟩
  · obtain ⟨c, _, e⟩ := List.mem_map.mp h1
    obtain ⟨c2, _, e2⟩ := List.mem_map.mp h2
    obtain ⟨rfl, _⟩ := List.cons.inj (PyData.tuple.inj e)
    obtain ⟨rfl, _⟩ := List.cons.inj (PyData.tuple.inj e2)
    rfl
  · obtain ⟨c, m1, e⟩ := List.mem_map.mp h1
    obtain ⟨c2, m2, e2⟩ := List.mem_map.mp h2
    rw [← PyData.tuple.inj e, ← PyData.tuple.inj e2]
    have a1 : ∀ x y : Str, PySem.W.alike (.str x) (.str y) = true := fun _ _ => rfl
    simp only [okCmp, a1, Bool.true_and, Bool.or_true, Bool.and_true]
    cases e1 : PyData.eqv (.str c.1) (.str c2.1) with
    | false => rfl
    | true =>
      cases e3 : PyData.eqv (.str c.2.1) (.str c2.2.1) with
      | false => rfl
      | true =>
        have x1 : c.1 = c2.1 := by simpa [PyData.eqv] using e1
        have x2 : c.2.1 = c2.2.1 := by simpa [PyData.eqv] using e3
        rw [pair_eq h m1 m2 x1 x2, alike_opt]; rfl
section
variable {K : PySem.W.Frag}
theorem go_offB {H : Hp} {b : Addr} {n : Nat} (B : Bp H b n) (a : Addr) (us : List V) (h : SqT K H a us) : SqT K (off H [b]) a us := by
  obtain ⟨x, y, z, h1, _⟩ := B
  have go : ∀ o, (H a = some (.tup us) ∨ H a = some (.frz o (.tup us))) → a ∉ [b] := fun o e z => by
    rw [List.mem_singleton] at z; subst z; rw [h1] at e; rcases e with e | e <;> cases e
  rcases h with (h | ⟨o, h⟩) | h
  · exact .inl (.inl (by rw [off_out (go ⟨.none, none, .fields #[], #[]⟩ (.inl h))]; exact h))
  · exact .inl (.inr ⟨o, by rw [off_out (go o (.inr h))]; exact h⟩)
  · exact .inr h
theorem dp_offB {H : Hp} {b : Addr} {n : Nat} {v : V} {e : PyData} (B : Bp H b n) (h : noLAll.noL e) (p : Dp K H v e) : Dp K (off H [b]) v e := dp_go (go_offB B) h p
theorem dpAll_offB {H : Hp} {b : Addr} {n : Nat} {vs : List V} {es : List PyData} (B : Bp H b n) (h : noLAll es) (p : DpAll K H vs es) : DpAll K (off H [b]) vs es := dpAll_go (go_offB B) h p
end
theorem div_mod_inj {m i j : Nat} (h1 : i / m = j / m) (h2 : i % m = j % m) : i = j := by
  have a := Nat.div_add_mod i m
  have b := Nat.div_add_mod j m
  rw [h1, h2] at a
  omega
end Pot

namespace Pot
open PySem PySem.Spec PyProof.Rows L2
/-! ### a list that is filled while there is drawn, things beside it that stay -/
structure Acc (K : PySem.W.Frag) (H0 : Hp) (b R : Addr) (fs : List (V × PyData)) (n : Nat) (us : List V) (ds : List PyData) (H : Hp) : Prop where
  st : Bp H b n
  sm : Sm [b] H0 H
  Rb : R ≠ b
  nR : H0 R = none
  fr : ∀ p ∈ fs, Dp K (off H [R, b]) p.1 p.2
  hR : H R = some (.lst us)
  dR : DpAll K (off H [R, b]) us ds
section
variable {K : PySem.W.Frag} {H0 H H' : Hp} {b R p : Addr} {fs : List (V × PyData)} {n m : Nat} {us : List V} {ds : List PyData} {o : HO}
theorem Acc.live (M : Acc K H0 b R fs n us ds H) : Live [R, b] H := (Live.pw M.st).cons M.hR
theorem Acc.drawn (M : Acc K H0 b R fs n us ds H) (st : Bp H' b m) (s : Sm [b] H H') : Acc K H0 b R fs m us ds H' :=
  have s2 : Sm [R, b] H H' := sm_one (by simp) s
  ⟨st, M.sm.trans s, M.Rb, M.nR, fun q hq => dp_same s2 (M.fr q hq), sm1_at s M.Rb M.hR, dpAll_same s2 M.dR⟩
theorem Acc.same (M : Acc K H0 b R fs n us ds H) (s : Same H H') : Acc K H0 b R fs n us ds H' :=
  have s2 : Sm [R, b] H H' := sm_of s
  ⟨M.st.same s, M.sm.trans (sm_of s), M.Rb, M.nR, fun q hq => dp_same s2 (M.fr q hq), s _ _ M.hR, dpAll_same s2 M.dR⟩
theorem Acc.put (M : Acc K H0 b R fs n us ds H) (h : H p = none) : Acc K H0 b R fs n us ds (upd H p o) := M.same (same_upd h)
theorem Acc.mono (M : Acc K H0 b R fs n us ds H) (h : n ≤ m) : Acc K H0 b R fs m us ds H := ⟨M.st.mono h, M.sm, M.Rb, M.nR, M.fr, M.hR, M.dR⟩
theorem Acc.app (M : Acc K H0 b R fs n us ds H) {v : V} {d : PyData} (hv : Dp K (off H [R, b]) v d) : Acc K H0 b R fs n (us ++ [v]) (ds ++ [d]) (upd H R (.lst (us ++ [v]))) :=
  have s2 : Sm [R, b] H (upd H R (.lst (us ++ [v]))) := sm_wr (by simp)
  ⟨M.st.wr M.Rb, smp M.sm M.nR, M.Rb, M.nR, fun q hq => dp_same s2 (M.fr q hq), upd_same, dpAll_same s2 (dpAll_app M.dR (.cons hv .nil))⟩
/-- the list is new -/
theorem Acc.start (B : Bp H b n) (s : Sm [b] H0 H) (h : H R = none) (fr : ∀ p ∈ fs, Dp K (off H [b]) p.1 p.2) : Acc K H0 b R fs n [] [] (upd H R (.lst [])) :=
  ⟨B.put h, s.trans (sm_put h), B.ne h, sm_free s B.bx h, fun q hq => by
    have e : off (upd H R (.lst [])) [R, b] = off H [b] := off_fresh h
    rw [e]; exact fr q hq, upd_same, .nil⟩
theorem Acc.new (M : Acc K H0 b R fs n us ds H) (h : H p = none) : off (upd H p o) [R, b] p = some o := off_new M.live h
/-- the list done: a thing among the others -/
theorem Acc.done (M : Acc K H0 b R fs n us ds H) : Dp K (off H [b]) (.ref R) (.list ds) :=
  .lst (SqL.of (by rw [off_out (by simpa using M.Rb)]; exact M.hR)) (dpAll_same (off_mono (by simp)) M.dR)
theorem Acc.kept (M : Acc K H0 b R fs n us ds H) {q : V × PyData} (h : q ∈ fs) : Dp K (off H [b]) q.1 q.2 := dp_same (off_mono (by simp)) (M.fr q h)
end
theorem e106 : (10 : Int) ^ (6 : Int).toNat = 1000000 := by decide
end Pot

namespace Pot
open PySem PySem.Spec PyProof.Rows L2
section
variable {K : PySem.W.Frag}
/-! ### bounds of drawn data, its texts too -/
def txAll (n : Nat) : List PyData → Prop
  | [] => True
  | x :: xs => tx n x ∧ txAll n xs
where tx (n : Nat) : PyData → Prop
  | .str x => x.length ≤ n ∧ ∀ c ∈ x.cps.toList, c < 128
  | .list xs => txAll n xs
  | .tuple xs => txAll n xs
  | _ => True
abbrev tx (n : Nat) (d : PyData) : Prop := txAll.tx n d
theorem txAll_iff {n : Nat} : ∀ {ds : List PyData}, txAll n ds ↔ ∀ d ∈ ds, tx n d
  | [] => ⟨fun _ _ h => (List.not_mem_nil h).elim, fun _ => trivial⟩
  | x :: xs => ⟨fun h d hd => (List.mem_cons.mp hd).elim (fun e => by rw [e]; exact h.1) fun e => txAll_iff.mp h.2 d e, fun h => ⟨h x List.mem_cons_self, txAll_iff.mpr fun d hd => h d (List.mem_cons_of_mem _ hd)⟩⟩
mutual
theorem tx_mono {n k : Nat} (h : n ≤ k) : ∀ d : PyData, tx n d → tx k d
  | .none, _ => trivial
  | .bool _, _ => trivial
  | .int _, _ => trivial
  | .str x, g => ⟨Nat.le_trans g.1 h, g.2⟩
  | .list xs, g => txAll_mono h xs g
  | .tuple xs, g => txAll_mono h xs g
  | .dict _, _ => trivial
theorem txAll_mono {n k : Nat} (h : n ≤ k) : ∀ ds : List PyData, txAll n ds → txAll k ds
  | [], _ => trivial
  | x :: xs, g => ⟨tx_mono h x g.1, txAll_mono h xs g.2⟩
end
structure Bd (n m C D W : Nat) (d : PyData) : Prop where
  t : Th m C D W d
  x : tx n d
structure Bds (n m C D W : Nat) (ds : List PyData) : Prop where
  t : Ths m C D W ds
  x : ∀ d ∈ ds, tx n d
section
variable {n m C D W n' m' C' D' W' : Nat} {d x : PyData} {ds es xs ys : List PyData}
theorem Bd.mono (h : Bd n m C D W d) (a : n ≤ n') (b : m ≤ m') (c : C ≤ C') (e : D ≤ D') (f : W ≤ W') : Bd n' m' C' D' W' d := ⟨h.t.mono b c e f, tx_mono a d h.x⟩
theorem Bds.mono (h : Bds n m C D W ds) (a : n ≤ n') (b : m ≤ m') (c : C ≤ C') (e : D ≤ D') (f : W ≤ W') : Bds n' m' C' D' W' ds := ⟨h.t.mono b c e f, fun d hd => tx_mono a d (h.x d hd)⟩
theorem Bds.nil : Bds n m 0 D W [] := ⟨Ths.nil, fun _ h => (List.not_mem_nil h).elim⟩
theorem Bds.app (h : Bds n m C D W xs) (k : Bds n m C' D W ys) : Bds n m (C + C') D W (xs ++ ys) := ⟨h.t.app k.t, fun d hd => (List.mem_append.mp hd).elim (h.x d) (k.x d)⟩
theorem Bds.one (h : Bd n m C D W x) : Bds n m (C + 2) D W [x] := ⟨Ths.one h.t, fun d hd => by rw [List.mem_singleton.mp hd]; exact h.x⟩
theorem Bds.list (h : Bds n m C D W ds) (l : ds.length ≤ W) : Bd n m (C + 3) (D + 1) W (.list ds) := ⟨h.t.list l, txAll_iff.mpr h.x⟩
theorem Bds.tuple (h : Bds n m C D W ds) (l : ds.length ≤ W) : Bd n m (C + 3) (D + 1) W (.tuple ds) := ⟨h.t.tuple l, txAll_iff.mpr h.x⟩
theorem Bd.parts (h : Bd n m C D W d) (e : d = .list ds ∨ d = .tuple ds) : Bds n m (C - 3) (D - 1) W ds ∧ ds.length ≤ W ∧ 3 ≤ C ∧ 1 ≤ D := by
  obtain ⟨a, b⟩ := h.t.parts e
  refine ⟨⟨a, ?_⟩, b⟩
  rcases e with rfl | rfl
  · exact txAll_iff.mp h.x
  · exact txAll_iff.mp h.x
theorem Bds.take (h : Bds n m C D W ds) (k : Nat) : Bds n m C D W (ds.take k) := ⟨h.t.take k, fun d hd => h.x d (List.mem_of_mem_take hd)⟩
theorem Bds.drop (h : Bds n m C D W ds) (k : Nat) : Bds n m C D W (ds.drop k) := ⟨h.t.drop k, fun d hd => h.x d (List.mem_of_mem_drop hd)⟩
theorem Bds.rev (h : Bds n m C D W ds) : Bds n m C D W ds.reverse := ⟨h.t.rev, fun d hd => h.x d (List.mem_reverse.mp hd)⟩
theorem Bds.set {i : Nat} (h : Bds n m C D W ds) (k : Bd n m C' D W x) : Bds n m (C + C' + 2) D W (ds.set i x) := ⟨h.t.set k.t, fun d hd => (List.mem_or_eq_of_mem_set hd).elim (h.x d) fun e => by rw [e]; exact k.x⟩
theorem Bds.mem (h : Bds n m C D W ds) (e : d ∈ ds) : Bd n m C D W d := ⟨h.t.mem e, h.x d e⟩
theorem bd_int {i : Int} (h : i.natAbs ≤ m) : Bd n m 1921 0 0 (.int i) := ⟨⟨h, Nat.le_refl _, Nat.le_refl _, Nat.le_refl _⟩, trivial⟩
theorem bd_bool (b : Bool) : Bd n m 5 0 0 (.bool b) := ⟨⟨trivial, Nat.le_refl _, Nat.le_refl _, Nat.le_refl _⟩, trivial⟩
theorem bd_none : Bd n m 4 0 0 .none := ⟨⟨trivial, Nat.le_refl _, Nat.le_refl _, Nat.le_refl _⟩, trivial⟩
theorem bd_str {z : Str} (h : z.length ≤ n) (h2 : n ≤ 2000) (c : ∀ x ∈ z.cps.toList, x < 128) : Bd n m (10 * n + 2) 0 0 (.str z) := ⟨⟨⟨Nat.le_trans h h2, fun x hx => Nat.lt_trans (c x hx) (by decide)⟩, by show 10 * z.length + 2 ≤ _; omega, Nat.le_refl _, Nat.le_refl _⟩, h, c⟩
end
theorem text_small {i : Int} (h : i.natAbs < 10 ^ 11) : (Str.ofString (toString i)).length ≤ 12 := by
  rw [PySem.ofString_length]
  exact int_text_length_le10 (k := 11) (by decide) h
theorem text_ascii (i : Int) : ∀ c ∈ (Str.ofString (toString i)).cps.toList, c < 128 := by
  intro c hc
  refine Decidable.byContradiction fun h => ?_
  exact PyProof.Rows.int_text_free' c ⟨by omega, by omega⟩ i hc
theorem cut_small (z : Str) (lo hi : Option Int) : (cutS z lo hi).length ≤ z.length := by
  have := cut_len z lo hi
  have h1 : HT.sIx z.length z.length hi ≤ z.length := HT.sIx_le _ _ (Nat.le_refl _) _
  omega
theorem cut_dp {H : Hp} {xs : List V} {ds : List PyData} {n m C D W : Nat} (da : DpAll K H xs ds) (b : Bds n m C D W ds) (lo hi : Option Int) : ∃ ys es, cutV xs lo hi = ys ∧ DpAll K H ys es ∧ Bds n m C D W es ∧ es.length ≤ ds.length ∧ ys.length = es.length := by
  refine ⟨_, (ds.drop (HT.sIx xs.length 0 lo)).take (HT.sIx xs.length xs.length hi - HT.sIx xs.length 0 lo), rfl, ?_, (b.drop _).take _, ?_, ?_⟩
  · exact dpAll_take _ (dpAll_drop _ da)
  · rw [List.length_take, List.length_drop]; omega
  · exact dpAll_len (dpAll_take _ (dpAll_drop _ da))
theorem cut_one (xs : List V) (a : Nat) : (cutV xs (some (a : Int)) (some ((a : Int) + 1))).length ≤ 1 := by
  unfold cutV
  rw [List.length_take, List.length_drop]
  rw [show ((a : Int) + 1) = ((a + 1 : Nat) : Int) by omega, HT.sIx_nat, HT.sIx_nat]
  omega
theorem str_mem_app {a b : Str} {x : Nat} (h : x ∈ (a ++ b).cps.toList) : x ∈ a.cps.toList ∨ x ∈ b.cps.toList := by
  have e : (a ++ b).cps.toList = a.cps.toList ++ b.cps.toList := Array.toList_append
  rw [e] at h
  exact List.mem_append.mp h
abbrev SqA (K : PySem.W.Frag) (H : Hp) (a : Addr) (xs : List V) : Prop := SqL K H a xs ∨ SqT K H a xs
theorem sq_same {H H' : Hp} {a : Addr} {xs : List V} (s : Same H H') (h : SqA K H a xs) : SqA K H' a xs := h.imp s.seq (same_tup s)
theorem sqa_off {H : Hp} {S : List Addr} {a : Addr} {xs : List V} (h : SqA K (off H S) a xs) : SqA K H a xs := sq_same off_sub h
theorem sqa_len {H : Hp} {a : Addr} {xs : List V} (h : SqA K H a xs) : LenV K (.ref a) H xs.length := h.elim (fun h => .inl ⟨_, h, rfl⟩) (fun h => .inr ⟨_, h, rfl⟩)
end
theorem upper_len {z : Str} (h : ∀ c ∈ z.cps.toList, c < 128) : (Txt.upper z).length = z.length := by
  rw [PyProof.Rows.upper_ascii h]
  show (z.cps.map _).size = z.cps.size
  rw [Array.size_map]
theorem upper_small {z : Str} (h : ∀ c ∈ z.cps.toList, c < 128) : ∀ c ∈ (Txt.upper z).cps.toList, c < 128 := by
  rw [PyProof.Rows.upper_ascii h]
  intro c hc
  have hc : c ∈ z.cps.toList.map PyProof.Rows.up1 := by simpa using hc
  obtain ⟨d, hd, rfl⟩ := List.mem_map.mp hc
  have := h d hd
  unfold PyProof.Rows.up1
  split <;> omega
theorem log_smallW {i : Int} (h : i.natAbs ≤ 10 ^ 12) : i.natAbs.log2 < 1920 := by
  by_cases z : i.natAbs = 0
  · rw [z]; decide
  · have := (Nat.log2_lt z).mpr (show i.natAbs < 2 ^ 40 from Nat.lt_of_le_of_lt h (by decide))
    omega
mutual
theorem gd_fineW {m : Nat} (h : m ≤ 10 ^ 12) : ∀ d : PyData, gd m d → fineAll.fine d
  | .none, _ => trivial
  | .bool _, _ => trivial
  | .int i, g => log_smallW (Nat.le_trans g h)
  | .str _, g => fun c hc => Nat.lt_trans (g.2 c hc) (by decide)
  | .list xs, g => gdAll_fineW h xs g
  | .tuple xs, g => gdAll_fineW h xs g
  | .dict _, g => g.elim
theorem gdAll_fineW {m : Nat} (h : m ≤ 10 ^ 12) : ∀ ds : List PyData, gdAll m ds → fineAll ds
  | [], _ => trivial
  | x :: xs, g => ⟨gd_fineW h x g.1, gdAll_fineW h xs g.2⟩
end
theorem Nm.ascii {z : Str} (h : Nm z) : ∀ c ∈ z.cps.toList, c < 128 := fun c hc => by have := (h.1.2 c hc).2; omega
theorem ascii_of {s : String} (h : (Str.ofString s).cps.toList.all (fun c => decide (c < 128)) = true) : ∀ c ∈ (Str.ofString s).cps.toList, c < 128 := fun c hc => of_decide_eq_true (List.all_eq_true.mp h c hc)
theorem ascii_app {a b : Str} (h1 : ∀ x ∈ a.cps.toList, x < 128) (h2 : ∀ x ∈ b.cps.toList, x < 128) : ∀ x ∈ (a ++ b).cps.toList, x < 128 := fun x hx => (str_mem_app hx).elim (h1 x) (h2 x)
theorem ascii_cut {z : Str} (h : ∀ x ∈ z.cps.toList, x < 128) (lo hi : Option Int) : ∀ x ∈ (cutS z lo hi).cps.toList, x < 128 := fun x hx => h x (cut_mem hx)
end Pot

namespace Pot
open PySem PySem.Spec PyProof.Rows L2
/-! ### lists and tuples alike: slices, sums, places -/
section
variable {X : Cx} {K : PySem.W.Frag}
def rSlS' (K : PySem.W.Frag) : V → Option Int → Option Int → Hp → VK → Prop := fun x lo hi H Q => rSlL K x lo hi H Q ∨ rSlA K x lo hi H Q
theorem kl_any (h : X.K = K := by rfl) : SlR X (rSlS' K) := h ▸ SlR.or sl_list sl_tupA
def rCatS' (K : PySem.W.Frag) : R2 := fun x y H Q => rCat x y H Q ∨ rCatA K x y H Q
theorem ko_catS (h : X.K = K := by rfl) : OpR X (binaryOp .Add) (rCatS' K) := h ▸ OpR.or op_cat op_catA
def rIxS' (K : PySem.W.Frag) : R2 := fun x y H Q => rIxL K x y H Q ∨ rIxT K x y H Q
theorem kx_any (h : X.K = K := by rfl) : IxR X (rIxS' K) := h ▸ IxR.or ix_list ix_tup
end
/-- a list's or a tuple's data -/
def seqD (t : Bool) (ds : List PyData) : PyData := if t = true then .tuple ds else .list ds
theorem seqD_t (ds : List PyData) : seqD true ds = .tuple ds := rfl
theorem seqD_l (ds : List PyData) : seqD false ds = .list ds := rfl
theorem seqD_or (t : Bool) (ds : List PyData) : seqD t ds = .list ds ∨ seqD t ds = .tuple ds := by cases t; exact .inl rfl; exact .inr rfl
theorem seqD_tup (t : Bool) (ds : List PyData) : isTupD (seqD t ds) = t := by cases t <;> rfl
theorem seqD_seq (t : Bool) (ds : List PyData) : (isListD (seqD t ds) || isTupD (seqD t ds)) = true := by cases t <;> rfl
def cutL (ds : List PyData) (lo hi : Option Int) : List PyData := (ds.drop (HT.sIx ds.length 0 lo)).take (HT.sIx ds.length ds.length hi - HT.sIx ds.length 0 lo)
theorem cutL_le (ds : List PyData) (lo hi : Option Int) : (cutL ds lo hi).length ≤ ds.length := by
  unfold cutL
  rw [List.length_take, List.length_drop]; omega
theorem cutL_head (ds : List PyData) (a : Nat) : cutL ds none (some (a : Int)) = ds.take a := by
  unfold cutL
  rw [HT.sIx_nat]
  show (ds.drop 0).take (min a ds.length - 0) = _
  rw [List.drop_zero, Nat.sub_zero]
  rcases Nat.le_total a ds.length with h | h
  · rw [Nat.min_eq_left h]
  · rw [Nat.min_eq_right h, List.take_length, List.take_of_length_le h]
theorem cutL_tail (ds : List PyData) (a : Nat) : cutL ds (some (a : Int)) none = ds.drop a := by
  unfold cutL
  rw [HT.sIx_nat]
  show (ds.drop (min a ds.length)).take (ds.length - min a ds.length) = _
  rcases Nat.le_total a ds.length with h | h
  · rw [Nat.min_eq_left h, List.take_of_length_le (by rw [List.length_drop]; exact Nat.le_refl _)]
  · rw [Nat.min_eq_right h, List.drop_length, List.drop_of_length_le h, List.take_nil]
/-- a value that is a list of its own or a tuple -/
def SeqV (K : PySem.W.Frag) (H : Hp) (t : Bool) (y : V) (ds : List PyData) : Prop := ∃ a xs, y = .ref a ∧ DpAll K H xs ds ∧ (if t = true then SqT K H a xs else H a = some (.lst xs))
section
variable {K : PySem.W.Frag} {H H' : Hp} {S : List Addr} {t : Bool} {x y : V} {ds es : List PyData} {lo hi : Option Int} {Q : VK}
theorem SeqV.dp (h : SeqV K H t y ds) : Dp K H y (seqD t ds) := by
  obtain ⟨a, xs, rfl, da, hs⟩ := h
  cases t with
  | true => exact .tup hs da
  | false => exact .lst (SqL.of hs) da
theorem SeqV.same (s : Same H H') (h : SeqV K H t y ds) : SeqV K H' t y ds := by
  obtain ⟨a, xs, rfl, da, hs⟩ := h
  refine ⟨a, xs, rfl, dpAll_same s da, ?_⟩
  cases t with
  | true => exact same_tup s hs
  | false => exact s _ _ hs
theorem sl_seq (lv : Live S H) (d : Dp K (off H S) x (seqD t ds)) (q : ∀ H' y, Same H H' → SeqV K (off H' S) t y (cutL ds lo hi) → Q y H') : rSlS' K x lo hi H Q := by
  cases t with
  | true =>
    obtain ⟨a, xs, rfl, hs, da⟩ := dp_tup d
    have lx := dpAll_len da
    refine .inr ⟨a, xs, rfl, sqt_off hs, fun h => ?_, fun h p np => ?_⟩
    · refine q _ _ (Same.refl _) ⟨a, xs, rfl, ?_, hs⟩
      have e : cutL ds lo hi = ds := by
        unfold cutL
        rw [lx] at h
        rw [h.1, h.2, List.drop_zero, Nat.sub_zero, List.take_length]
      rw [e]; exact da
    · refine q _ _ (same_upd np) ⟨p, _, rfl, ?_, .inl (.inl (off_new lv np))⟩
      unfold cutL
      rw [← lx]
      exact dpAll_same (sm_put np) (dpAll_take _ (dpAll_drop _ da))
  | false =>
    obtain ⟨a, xs, rfl, hs, da⟩ := dp_lst d
    have lx := dpAll_len da
    refine .inl ⟨a, xs, rfl, sq_off hs, fun p np => ?_⟩
    refine q _ _ (same_upd np) ⟨p, _, rfl, ?_, off_new lv np⟩
    unfold cutL
    rw [← lx]
    exact dpAll_same (sm_put np) (dpAll_take _ (dpAll_drop _ da))
theorem cat_seq (lv : Live S H) (d : SeqV K (off H S) t x ds) (e : SeqV K (off H S) t y es) (l : ds.length + es.length ≤ sizeLine) (q : ∀ H' z, Same H H' → SeqV K (off H' S) t z (ds ++ es) → Q z H') : rCatS' K x y H Q := by
  obtain ⟨a, xs, rfl, da, hs⟩ := d
  obtain ⟨b, ys, rfl, db, ht⟩ := e
  have lx := dpAll_len da
  have ly := dpAll_len db
  cases t with
  | true =>
    have hs : SqT K (off H S) a xs := hs
    have ht : SqT K (off H S) b ys := ht
    refine .inr ⟨a, b, xs, ys, rfl, rfl, sqt_off hs, sqt_off ht, by rw [lx, ly]; exact l, fun z => ?_, fun z z2 => ?_, fun z z2 p np => ?_⟩
    · refine q _ _ (Same.refl _) ⟨b, ys, rfl, ?_, ht⟩
      have : ds = [] := List.length_eq_zero_iff.mp (by rw [← lx, z]; rfl)
      rw [this]; exact db
    · refine q _ _ (Same.refl _) ⟨a, xs, rfl, ?_, hs⟩
      have : es = [] := List.length_eq_zero_iff.mp (by rw [← ly, z2]; rfl)
      rw [this, List.append_nil]; exact da
    · exact q _ _ (same_upd np) ⟨p, _, rfl, dpAll_same (sm_put np) (dpAll_app' da db), .inl (.inl (off_new lv np))⟩
  | false =>
    have hs : off H S a = some (.lst xs) := hs
    have ht : off H S b = some (.lst ys) := ht
    exact .inl ⟨a, b, xs, ys, rfl, rfl, at_off hs, at_off ht, by rw [lx, ly]; exact l, fun p np => q _ _ (same_upd np) ⟨p, _, rfl, dpAll_same (sm_put np) (dpAll_app' da db), off_new lv np⟩⟩
theorem ix_seqV {i : Nat} {d : PyData} (h : Dp K (off H S) x (seqD t ds)) (g : ds[i]? = some d) (q : ∀ y, Dp K (off H S) y d → Q y H) : rIxS' K x (.int (i : Nat)) H Q := by
  cases t with
  | true =>
    obtain ⟨a, xs, rfl, hs, da⟩ := dp_tup h
    have lx := dpAll_len da
    have hi : i < xs.length := by rw [lx]; exact (List.getElem?_eq_some_iff.mp g).1
    obtain ⟨d2, g2, dp⟩ := dpAll_at da (List.getElem?_eq_getElem hi)
    rw [g] at g2
    cases g2
    exact .inr ⟨a, xs, _, _, rfl, rfl, sqt_off hs, atI_nat (List.getElem?_eq_getElem hi), q _ dp⟩
  | false =>
    obtain ⟨a, xs, rfl, hs, da⟩ := dp_lst h
    have lx := dpAll_len da
    have hi : i < xs.length := by rw [lx]; exact (List.getElem?_eq_some_iff.mp g).1
    obtain ⟨d2, g2, dp⟩ := dpAll_at da (List.getElem?_eq_getElem hi)
    rw [g] at g2
    cases g2
    exact .inl ⟨a, xs, _, _, rfl, rfl, sq_off hs, atI_nat (List.getElem?_eq_getElem hi), q _ dp⟩
theorem len_seq (h : Dp K (off H S) x (seqD t ds)) : LenV K x H ds.length := by
  cases t with
  | true =>
    obtain ⟨a, xs, rfl, hs, da⟩ := dp_tup h
    rw [← dpAll_len da]
    exact .inr ⟨_, sqt_off hs, rfl⟩
  | false =>
    obtain ⟨a, xs, rfl, hs, da⟩ := dp_lst h
    rw [← dpAll_len da]
    exact .inl ⟨_, sq_off hs, rfl⟩
end
section
variable {n m C D W : Nat} {ds : List PyData}
theorem Bds.cut (h : Bds n m C D W ds) (lo hi : Option Int) : Bds n m C D W (cutL ds lo hi) := (h.drop _).take _
theorem Bd.seq {t : Bool} (h : Bd n m C D W (seqD t ds)) : Bds n m C (D - 1) W ds ∧ ds.length ≤ W := by
  obtain ⟨a, b, c, d⟩ := h.parts (seqD_or t ds)
  exact ⟨a.mono (Nat.le_refl _) (Nat.le_refl _) (Nat.sub_le _ _) (Nat.le_refl _) (Nat.le_refl _), b⟩
theorem Bds.seq {t : Bool} (h : Bds n m C D W ds) (l : ds.length ≤ W) : Bd n m (C + 3) (D + 1) W (seqD t ds) := by
  cases t
  · exact h.list l
  · exact h.tuple l
end
end Pot

namespace Pot
open PySem PySem.Spec PyProof.Rows L2
/-! ### calls by names alone -/
section
variable {X : Cx} {CX : CXT} {k : Nat} {f : Addr} {fd : FuncData} {ps ks : List Str} {sp : Sp} {E : XK} {x : Str} {p pos : Pos} {kws : List Keyword} {tk : TA} {g : List Value → List Value → List Value} {gV : List V → List V → List V}
theorem pe_callK0 (F : FnOk X.prog X.w X.K X.mg X.base CX k f fd ps sp) (hr : Room k X.A) (hg : Gl X x) (hm : X.mg x = some (.ref f)) (hk : PySem.W.keepIn X.K (.ref f) = true) (hb : KBinds X.K fd ps ks g gV) (hx : Passes CX X E)
    (hkw : PK X kws tk) (hall : (backToKw pos (keywordEach kws X.env)).all (·.1.isSome) = true := by rfl) (hks : (backToKw pos (keywordEach kws X.env)).filterMap (·.1) = ks := by rfl)
    (hdb : (x == ("__debug__" : Str)) = false := by decide)
    (hpl : ((backTo pos (starEach [] X.env)).any (·.1) || (backToKw pos (keywordEach kws X.env)).any (·.1.isNone)) = false := by rfl) :
    PE X (.Call (.Name x p) [] kws pos) (tCallK sp gV E tNil tk) := by
  refine ⟨fun pins s σ H Q I h => ?_⟩
  refine wpAny_Call_Name_kw (ld_glob I hg hm ?_ hdb)
  refine PySem.W.callWith_KW0 (h₀ := X.base) I.ok.mod.kin hk hall (thn (hkw.run pos pins s σ H _ I h) fun ws s2 ⟨zs, H2, I2, rz, q2⟩ => ⟨I2.kIn, ?_⟩) hpl
  rw [hks]
  exact run_fnk F hr hb hx I2 .nil rz q2
end
def ClK (P : Program) (w : World) (K : PySem.W.Frag) (mg : Str → Option Value) (base : Heap) (k : Nat) (x : Str) (ks : List Str) (gV : List V → List V → List V) (sp : Sp) : Prop :=
  ∃ (f : Addr) (fd : FuncData) (ps : List Str) (g : List Value → List Value → List Value), FnOk P w K mg base CX0 k f fd ps sp ∧ mg x = some (.ref f) ∧ PySem.W.keepIn K (.ref f) = true ∧ KBinds K fd ps ks g gV
theorem pe_ck {X : Cx} {k j : Nat} {x : Str} {ks : List Str} {gV : List V → List V → List V} {sp : Sp} {kws : List Keyword} {t : TA} {p pos : Pos} (c : ClK X.prog X.w X.K X.mg X.base k x ks gV sp) (hr : Room j X.A) (hk : k ≤ j) (hg : Gl X x) (ha : PK X kws t)
    (hall : (backToKw pos (keywordEach kws X.env)).all (·.1.isSome) = true := by rfl) (hks : (backToKw pos (keywordEach kws X.env)).filterMap (·.1) = ks := by rfl) (hdb : (x == ("__debug__" : Str)) = false := by decide)
    (hpl : ((backTo pos (starEach [] X.env)).any (·.1) || (backToKw pos (keywordEach kws X.env)).any (·.1.isNone)) = false := by rfl) : PE X (.Call (.Name x p) [] kws pos) (tCallK sp gV E0 tNil t) := by
  obtain ⟨f, fd, ps, g, G, hm, kp, b⟩ := c
  exact pe_callK0 G (hr.mono hk) hg hm kp b pass0 ha hall hks hdb hpl
/-- three, handed in from the last to the first -/
def rev3 {α : Type} : List α → List α → List α
  | [], [a, b, c] => [c, b, a]
  | _, _ => []
theorem kb_rev3 {K : PySem.W.Frag} {x qual : Str} {st : Stmt} {f : Addr} {fd : FuncData} {k1 k2 k3 : Str} (F : Fun K x qual st f fd)
    (h : ∀ (kV doc pm : Value) (an : Option Addr) (cdv ct a b c : Value), bindArgs (PySem.W.fnOf x qual (defArgs st) (defBody st) (defScope st) .none kV doc pm an cdv ct) ⟨[], [(k3, a), (k2, b), (k1, c)]⟩ = pure [(k1, c), (k2, b), (k3, a)]) : KBinds K fd [k1, k2, k3] [k3, k2, k1] rev3 rev3 := by
  obtain ⟨oc, od, kV, doc, pm, an, cdv, ct, osl, rfl, lk, hcd⟩ := F.ex
  refine ⟨fun s us ws _ hl => ?_, fun {vs us zs ws} r rz => ?_⟩
  · match us, ws, hl with
    | [], [a, b, c], _ => exact .of_eq (h kV doc pm an cdv ct a b c)
    | [], [], hl => cases hl
    | [], [_], hl => cases hl
    | [], [_, _], hl => cases hl
    | [], _ :: _ :: _ :: _ :: _, hl => cases hl
    | _ :: _, _, hl => cases hl
  · cases r with
    | nil =>
      cases rz with
      | nil => exact .nil
      | cons a rz =>
        cases rz with
        | nil => exact .nil
        | cons b rz =>
          cases rz with
          | nil => exact .nil
          | cons c rz =>
            cases rz with
            | nil => exact .cons c (.cons b (.cons a .nil))
            | cons _ _ => exact .nil
    | cons _ _ => exact .nil
/-- four, from the last to the first, of a def with defaults -/
def rev4 {α : Type} : List α → List α → List α
  | [], [a, b, c, d] => [d, c, b, a]
  | _, _ => []
theorem kb_rev4D {K : PySem.W.Frag} {x : Str} {st : Stmt} {dvs : List V} {f : Addr} {fd : FuncData} {k1 k2 k3 k4 : Str} (F : FunV K x st dvs f fd) (hd : dvs ≠ [])
    (h : ∀ (T : Addr) (kV doc pm : Value) (an : Option Addr) (cdv ct a b c d : Value) (its : List Value), its.length = dvs.length → ∃ k, bindArgs (PySem.W.fnOf x x (defArgs st) (defBody st) (defScope st) (.ref T) kV doc pm an cdv ct) ⟨[], [(k4, a), (k3, b), (k2, c), (k1, d)]⟩ = seqItems? (.ref T) >>= k ∧ k (some its.toArray) = pure [(k1, d), (k2, c), (k3, b), (k4, a)]) : KBinds K fd [k1, k2, k3, k4] [k4, k3, k2, k1] rev4 rev4 := by
  obtain ⟨oc, od, dV, kV, doc, pm, an, cdv, ct, osl, rfl, lk, hcd, hD, hK⟩ := F.ex
  refine ⟨fun s us ws X hl => ?_, fun {vs us zs ws} r rz => ?_⟩
  · rcases hD with ⟨e, _⟩ | ⟨_, T, o, its, m, rfl, lT, oT, rT⟩
    · exact absurd e hd
    · match us, ws, hl with
      | [], [a, b, c, d], _ =>
        obtain ⟨k, e1, e2⟩ := h T kV doc pm an cdv ct a b c d its rT.length.symm
        refine BindsTo.of_looks fun M => ?_
        show PySem.W.Looks M s.heap (bindArgs _ ⟨[], [(k4, a), (k3, b), (k2, c), (k1, d)]⟩) _
        rw [e1]
        exact looks_items X lT oT (.of_pure e2)
      | [], [], hl => cases hl
      | [], [_], hl => cases hl
      | [], [_, _], hl => cases hl
      | [], [_, _, _], hl => cases hl
      | [], _ :: _ :: _ :: _ :: _ :: _, hl => cases hl
      | _ :: _, _, hl => cases hl
  · cases r with
    | nil =>
      cases rz with
      | nil => exact .nil
      | cons a rz =>
        cases rz with
        | nil => exact .nil
        | cons b rz =>
          cases rz with
          | nil => exact .nil
          | cons c rz =>
            cases rz with
            | nil => exact .nil
            | cons d rz =>
              cases rz with
              | nil => exact .cons d (.cons c (.cons b (.cons a .nil)))
              | cons _ _ => exact .nil
    | cons _ _ => exact .nil
/-! ### a list or a tuple walked -/
def iAnyS (K : PySem.W.Frag) (tl : TE) : TI := fun σ H R => iList K tl σ H R ∨ iTup K tl σ H R
theorem ki_anyS {X : Cx} {K : PySem.W.Frag} {tg l : Expr} {tl : TE} (hl : PE X l tl) (h : X.K = K := by rfl) : PI X tg l (iAnyS K tl) :=
  ⟨fun pins s σ H R I z => z.elim (fun z => (ki_list hl h).run pins s σ H R I z) (fun z => (ki_tup hl h).run pins s σ H R I z)⟩
end Pot

namespace Pot
open PySem PySem.Spec PyProof.Rows L2
/-! ### comprehensions that make new things, nothing drawn -/
structure PvD (K : PySem.W.Frag) (H1 : Hp) (S : List Addr) (D : Addr) (ds : Nat → List PyData) (i : Nat) (H2 : Hp) : Prop where
  sm : Same H1 H2
  ex : ∃ us, H2 D = some (.lst us) ∧ DpAll K (off H2 (D :: S)) us (ds i)
section
variable {K : PySem.W.Frag} {H1 H2 H3 : Hp} {S : List Addr} {D : Addr} {ds : Nat → List PyData} {i : Nat} {y x : V} {d : PyData} {xs : List V} {es : List PyData}
theorem same_offD (nD : H1 D = none) (s : Same H1 H2) : Same (off H1 S) (off H2 (D :: S)) := fun a o h => by
  have n := off_mem h
  rw [off_out n] at h
  have ne : a ≠ D := fun z => by rw [z, nD] at h; cases h
  rw [off_out (by intro z; rcases List.mem_cons.mp z with z | z; exact ne z; exact n z)]
  exact s a o h
theorem pd_start (nD : H1 D = none) (e : ds 0 = []) : PvD K H1 S D ds 0 (upd H1 D (.lst [])) := ⟨same_upd nD, [], upd_same, by rw [e]; exact .nil⟩
theorem PvD.live (lv : Live S H1) (p : PvD K H1 S D ds i H2) : Live (D :: S) H2 := by
  obtain ⟨s, us, h, _⟩ := p
  exact (lv.same s).cons h
theorem PvD.keep (nD : H1 D = none) (p : PvD K H1 S D ds i H2) : Same (off H1 S) (off H2 (D :: S)) := same_offD nD p.sm
theorem pd_put (nD : H1 D = none) (p : PvD K H1 S D ds i H2) (s : Same H2 H3) (dy : Dp K (off H3 (D :: S)) y d) (e : ds (i + 1) = ds i ++ [d]) (l : (ds i).length < sizeLine) : ∃ acc, H3 D = some (.lst acc) ∧ acc.length < sizeLine ∧ PvD K H1 S D ds (i + 1) (upd H3 D (.lst (acc ++ [y]))) := by
  obtain ⟨s1, us, h, da⟩ := p
  have sw : Sm (D :: S) H3 (upd H3 D (.lst (us ++ [y]))) := sm_wr List.mem_cons_self
  refine ⟨us, s _ _ h, by rw [dpAll_len da]; exact l, same_put (s1.trans s) nD, _, upd_same, ?_⟩
  rw [e]
  exact dpAll_app (dpAll_same sw (dpAll_same (sm_of s) da)) (.cons (dp_same sw dy) .nil)
theorem pd_skip (p : PvD K H1 S D ds i H2) (s : Same H2 H3) (e : ds (i + 1) = ds i) : PvD K H1 S D ds (i + 1) H3 := by
  obtain ⟨s1, us, h, da⟩ := p
  exact ⟨s1.trans s, us, s _ _ h, by rw [e]; exact dpAll_same (sm_of s) da⟩
theorem PvD.same (p : PvD K H1 S D ds i H2) (s : Same H2 H3) : PvD K H1 S D ds i H3 := by
  obtain ⟨s1, us, h, da⟩ := p
  exact ⟨s1.trans s, us, s _ _ h, dpAll_same (sm_of s) da⟩
/-- a list is filled with another one's things -/
theorem pd_ext {ms ns : List PyData} {us zs : List V} {j : Nat} (nD : H1 D = none) (s : Same H1 H3) (h : H3 D = some (.lst us)) (da : DpAll K (off H3 (D :: S)) us ms) (dz : DpAll K (off H3 (D :: S)) zs ns) : PvD K H1 S D (fun _ => ms ++ ns) j (upd H3 D (.lst (us ++ zs))) := by
  have sw : Sm (D :: S) H3 (upd H3 D (.lst (us ++ zs))) := sm_wr List.mem_cons_self
  exact ⟨same_put s nD, _, upd_same, dpAll_same sw (dpAll_app da dz)⟩
theorem pd_end {n : Nat} (lv : Live S H1) (nD : H1 D = none) (p : PvD K H1 S D ds n H2) (e : ds n = es) : Same H1 H2 ∧ ∃ us, off H2 S D = some (.lst us) ∧ DpAll K (off H2 S) us es := by
  obtain ⟨s, us, h, da⟩ := p
  refine ⟨s, us, by rw [off_out (lv.out nD)]; exact h, ?_⟩
  rw [← e]
  exact dpAll_same (off_mono fun x hx => List.mem_cons_of_mem _ hx) da
end
theorem take_mapD {α : Type} (f : α → PyData) {l : List α} {i : Nat} {x : α} (h : l[i]? = some x) : (l.take (i + 1)).map f = (l.take i).map f ++ [f x] := by
  rw [List.take_add_one, h, List.map_append]; rfl
theorem take_allD {α : Type} {f : α → PyData} {l : List α} {n : Nat} (h : l.length ≤ n) : (l.take n).map f = l.map f := by rw [List.take_of_length_le h]
theorem take_lenD {α : Type} {f : α → PyData} {l : List α} {i : Nat} (h : l.length < 100000) : ((l.take i).map f).length < sizeLine := by
  rw [List.length_map, List.length_take, sizeLine_eq]; omega
theorem filt_yes {α : Type} (f : α → PyData) {p : α → Bool} {l : List α} {i : Nat} {x : α} (h : l[i]? = some x) (hp : p x = true) : ((l.take (i + 1)).filter p).map f = ((l.take i).filter p).map f ++ [f x] := by
  rw [List.take_add_one, h, Option.toList_some, List.filter_append, List.map_append]; simp [hp]
theorem filt_no {α : Type} (f : α → PyData) {p : α → Bool} {l : List α} {i : Nat} {x : α} (h : l[i]? = some x) (hp : p x = false) : ((l.take (i + 1)).filter p).map f = ((l.take i).filter p).map f := by
  rw [List.take_add_one, h, Option.toList_some, List.filter_append, List.map_append]; simp [hp]
theorem filt_len {α : Type} (f : α → PyData) (p : α → Bool) {l : List α} {i : Nat} (h : l.length < 100000) : (((l.take i).filter p).map f).length < sizeLine := by
  rw [List.length_map, sizeLine_eq]
  have h1 := List.length_filter_le p (l.take i)
  have h2 : (l.take i).length ≤ l.length := List.length_take_le' ..
  omega
theorem filt_all {α : Type} (f : α → PyData) (p : α → Bool) {l : List α} {n : Nat} (h : l.length ≤ n) : ((l.take n).filter p).map f = (l.filter p).map f := by rw [List.take_of_length_le h]
theorem go_offL {K : PySem.W.Frag} {H : Hp} {S : List Addr} (hS : ∀ s ∈ S, ∃ xs, H s = some (.lst xs)) (a : Addr) (us : List V) (h : SqT K H a us) : SqT K (off H S) a us := by
  have go : ∀ o, (H a = some (.tup us) ∨ H a = some (.frz o (.tup us))) → a ∉ S := fun o e z => by
    obtain ⟨xs, h1⟩ := hS a z
    rw [h1] at e; rcases e with e | e <;> cases e
  rcases h with (h | ⟨o, h⟩) | h
  · exact .inl (.inl (by rw [off_out (go ⟨.none, none, .fields #[], #[]⟩ (.inl h))]; exact h))
  · exact .inl (.inr ⟨o, by rw [off_out (go o (.inr h))]; exact h⟩)
  · exact .inr h
/-- data without lists stands beside any lists -/
theorem dpAll_offL {K : PySem.W.Frag} {H : Hp} {S : List Addr} {vs : List V} {es : List PyData} (hS : ∀ s ∈ S, ∃ xs, H s = some (.lst xs)) (h : noLAll es) (p : DpAll K H vs es) : DpAll K (off H S) vs es := dpAll_go (go_offL hS) h p
theorem off_nil {H : Hp} : off H [] = H := by
  funext x; unfold off; rw [if_neg (List.not_mem_nil)]
theorem live_nil {H : Hp} : Live [] H := fun _ h => (List.not_mem_nil h).elim
end Pot

namespace Pot
open PySem PySem.Spec PyProof.Rows L2
def topS (i : Nat) : Stmt := PySem.Challenge.pw_potround_k40_offers_and_wants_of_days.main.body.getD i (.Pass ⟨0, 0, 0, 0⟩)
section
variable {P : Program} {w : World} {K : PySem.W.Frag} {mg : Str → Option Value} {base : Heap}
abbrev s__law_take : Stmt := topS 10
def n__law_take : List Str := ["_law_box_here", "_law_many", "_law_found", "_law_mixed"]
theorem sc__law_take : FnScope n__law_take ["_law_box_here", "_law_many"] (defScope s__law_take) := ⟨rfl, rfl, rfl, by decide +kernel, rfl, by decide +kernel, by decide +kernel⟩
/-! ### _law_take -/
def spTake : Sp := fun vs H Q _ => ∃ (b : Addr) (m : Int) (n : Nat), vs = [.ref b, .int m] ∧ 0 < m ∧ m < 1073741824 ∧ Bp H b n ∧ n < 2 ^ 40 ∧
  ∀ H' r, 0 ≤ r → r < m → Bp H' b (n + 1) → Sm [b] H H' → Q (.int r) H'
theorem ok_take {f : Addr} {fd : FuncData} {k : Nat} (F : Fun K "_law_take" "_law_take" s__law_take f fd) : FnOk P w K mg base CX0 (k + 1) f fd ["_law_box_here", "_law_many"] spTake := by
  refine F.ok sc__law_take (fun vs H Q E h => ?_) (fun cdv A outer s H vs Q E hr h => ?_)
  · obtain ⟨b, m, n, rfl, _⟩ := h
    rfl
  · obtain ⟨b, m, n, rfl, hm0, hm1, ⟨x, y, z, B, z0, zn, y0, y1⟩, hn, q⟩ := h
    have nd := sc__law_take.nd
    refine ⟨_, (pss_cons (ps_if (pt_cmpR op_gt (pe_ix (kx_list (K := K)) (pv 0) pe_int (fun _ _ => rfl)) pe_int (nomark _))
          (pss_cons (ps_set (i := 2) nd rfl (.inl rfl) (pe_op op_mod (pe_ix (kx_list (K := K)) (pv 0) pe_int (fun _ _ => rfl)) (pv 1)))
          (pss_cons (ps_asg (pe_op op_fdiv (pe_ix (kx_list (K := K)) (pv 0) pe_int (fun _ _ => rfl)) (pv 1)) (pg_sub (pv 0) pe_int set_list))
          (pss_one (ps_ret (pv 2)))))
          pss_nil)
      (pss_cons (ps_asg (pe_op op_add (pe_ix (kx_list (K := K)) (pv 0) pe_int (fun _ _ => rfl)) pe_int) (pg_sub (pv 0) pe_int set_list))
      (pss_cons (ps_set (i := 3) nd rfl (.inl rfl) (pe_op op_mod (pe_op op_add (pe_ix (kx_list (K := K)) (pv 0) pe_int (fun _ _ => rfl)) (pe_op op_mul pe_int (pe_ix (kx_list (K := K)) (pv 0) pe_int (fun _ _ => rfl)))) pe_int))
      (pss_cons (ps_set (i := 3) nd rfl (.inl rfl) (pe_op op_mod (pe_op op_add (pe_op op_add (pe_op op_mul (pv 3) (pv 3)) (pe_op op_mul pe_int (pe_ix (kx_list (K := K)) (pv 0) pe_int (fun _ _ => rfl)))) pe_int) pe_int))
      (pss_cons (ps_set (i := 3) nd rfl (.inl rfl) (pe_op op_mod (pe_op op_add (pe_op op_mul (pv 3) (pe_op op_add (pe_op op_fdiv (pv 3) pe_int) pe_int)) (pe_ix (kx_list (K := K)) (pv 0) pe_int (fun _ _ => rfl))) pe_int))
      (pss_one (ps_ret (pe_op op_mod (pe_op op_fdiv (pv 3) pe_int) (pv 1))))))))), ?_⟩
    refine ⟨_, rfl, b, _, 0, .int x, rfl, rfl, SqL.of B, rfl, _, _, rfl, rfl, _, rfl, ite2 (fun hb => ?_) (fun hb => ?_)⟩
    · refine ⟨_, rfl, b, _, 0, .int x, rfl, rfl, SqL.of B, rfl, _, rfl, _, _, rfl, rfl, hm0, ?_⟩
      refine ⟨_, rfl, b, _, 0, .int x, rfl, rfl, SqL.of B, rfl, _, rfl, _, _, rfl, rfl, ⟨hm0, hm1⟩, _, rfl, b, _, 0, 0, rfl, rfl, B, rfl, ?_⟩
      refine ⟨_, rfl, q _ _ (Int.emod_nonneg _ (by omega)) (Int.emod_lt_of_pos _ hm0) ⟨_, _, _, upd_same, z0, by omega, y0, y1⟩ (sm_wr List.mem_cons_self)⟩
    · refine ⟨_, rfl, b, _, 2, .int z, rfl, rfl, SqL.of B, rfl, _, _, rfl, rfl, _, rfl, b, _, 2, 2, rfl, rfl, B, rfl, ?_⟩
      have B2 : upd H b (.lst [.int x, .int y, .int (z + 1)]) b = some (.lst [.int x, .int y, .int (z + 1)]) := upd_same
      have s2 : Sm [b] H (upd H b (.lst [.int x, .int y, .int (z + 1)])) := sm_wr List.mem_cons_self
      show tSeq _ _ _ _ (upd H b (.lst [.int x, .int y, .int (z + 1)]))
      generalize upd H b (.lst [.int x, .int y, .int (z + 1)]) = H2 at B2 s2 ⊢
      refine ⟨_, rfl, b, _, 1, .int y, rfl, rfl, SqL.of B2, rfl, _, rfl, b, _, 2, .int (z + 1), rfl, rfl, SqL.of B2, rfl, _, _, rfl, rfl, .inl ⟨by decide, by decide⟩, _, _, rfl, rfl, _, _, rfl, rfl, (by show (0 : Int) < 2305843009213693951; decide), ?_⟩
      have u0 := Int.emod_nonneg (y + 1442695040888963407 * (z + 1)) (show (2305843009213693951 : Int) ≠ 0 by decide)
      have u1 := Int.emod_lt_of_pos (y + 1442695040888963407 * (z + 1)) (show (0 : Int) < 2305843009213693951 by decide)
      generalize (y + 1442695040888963407 * (z + 1)) % 2305843009213693951 = u at u0 u1 ⊢
      refine ⟨_, rfl, _, rfl, _, _, rfl, rfl, .inl ⟨by omega, by omega⟩, _, rfl, b, _, 2, .int (z + 1), rfl, rfl, SqL.of B2, rfl, _, _, rfl, rfl, .inl ⟨by decide, by decide⟩, _, _, rfl, rfl, _, _, rfl, rfl, _, _, rfl, rfl, (by show (0 : Int) < 2305843009213693921; decide), ?_⟩
      have v0 := Int.emod_nonneg (u * u + 39373 * (z + 1) + 7) (show (2305843009213693921 : Int) ≠ 0 by decide)
      have v1 := Int.emod_lt_of_pos (u * u + 39373 * (z + 1) + 7) (show (0 : Int) < 2305843009213693921 by decide)
      generalize (u * u + 39373 * (z + 1) + 7) % 2305843009213693921 = v at v0 v1 ⊢
      refine ⟨_, rfl, _, rfl, _, _, rfl, rfl, ⟨by decide, by decide⟩, _, _, rfl, rfl, _, _, rfl, rfl, .inl ⟨by omega, by omega⟩, _, rfl, b, _, 2, .int (z + 1), rfl, rfl, SqL.of B2, rfl, _, _, rfl, rfl, _, _, rfl, rfl, (by show (0 : Int) < 2305843009213693907; decide), ?_⟩
      refine ⟨_, rfl, _, _, rfl, rfl, ⟨by decide, by decide⟩, _, rfl, _, _, rfl, rfl, hm0, ?_⟩
      exact q _ _ (Int.emod_nonneg _ (by omega)) (Int.emod_lt_of_pos _ hm0) ⟨_, _, _, B2, by omega, by omega, y0, y1⟩ s2

theorem cmul_abs (i : Int) (b : Bool) : CMul i (if b = true then 1 else 0) := .inr (by cases b <;> decide)
abbrev s__law_box : Stmt := topS 9
def n__law_box : List Str := ["_law_cells_here", "_law_k", "_law_cell"]
theorem sc__law_box : FnScope n__law_box ["_law_cells_here", "_law_k"] (defScope s__law_box) := ⟨rfl, rfl, rfl, by decide +kernel, rfl, by decide +kernel, by decide +kernel⟩
def spBox (K : PySem.W.Frag) : Sp := fun vs H Q _ => ∃ (c : Addr) (ns : List Int) (i : Nat), vs = [.ref c, .int (i : Nat)] ∧ SqL K H c (ns.map V.int) ∧ i < ns.length ∧ i < 1000 ∧
  ∀ H' p, Same H H' → H p = none → Bp H' p 0 → Q (.ref p) H'
theorem ok_box {f : Addr} {fd : FuncData} {k : Nat} (F : Fun K "_law_box" "_law_box" s__law_box f fd) (T : Txt mg) : FnOk P w K mg base CX0 (k + 1) f fd ["_law_cells_here", "_law_k"] (spBox K) := by
  refine F.ok sc__law_box (fun vs H Q E h => ?_) (fun cdv A outer s H vs Q E hr h => ?_)
  · obtain ⟨c, ns, i, rfl, _⟩ := h
    rfl
  · obtain ⟨c, ns, i, rfl, hS, hi, hi1, q⟩ := h
    have nd := sc__law_box.nd
    have e : (ns.map V.int)[i]? = some (.int ns[i]) := by rw [List.getElem?_map, List.getElem?_eq_getElem hi]; rfl
    refine ⟨_, (pss_cons (ps_set (i := 2) nd rfl (.inl rfl) (pe_ix (kx_list (K := K)) (pv 0) (pv 1) (fun _ _ => rfl)))
      (pss_one (ps_ret (pe_lst (pa_cons (pe_op op_mul (pe_callB call_abs (by rfl) T.abs (by decide +kernel) (pa_cons (pv 2) pa_nil)) (pe_callTy call_int1 (by rfl) T.int (by decide +kernel) (pa_cons (pe_cmpR op_ge (pe_callB call_abs (by rfl) T.abs (by decide +kernel) (pa_cons (pv 2) pa_nil)) (pe_op op_pow pe_int pe_int) (nomark _)) pa_nil))) (pa_cons (pe_op op_add (pe_op op_add (pe_op op_mod (pv 2) pe_int) (pe_op op_mul pe_int (pv 1))) pe_int) (pa_cons pe_int pa_nil))))))), ?_⟩
    refine ⟨_, rfl, _, rfl, c, _, _, _, rfl, rfl, hS, atI_nat e, ?_⟩
    refine ⟨_, rfl, _, rfl, _, rfl, _, rfl, _, _, rfl, rfl, ⟨by decide, by decide, by decide⟩, _, _, rfl, rfl, .inr ⟨_, rfl, _, _, rfl, rfl, cmul_abs _ _, ?_⟩⟩
    refine ⟨_, rfl, _, _, rfl, rfl, (by show (0 : Int) < 2305843009213693951; decide), _, rfl, _, _, rfl, rfl, .inl ⟨by decide, by decide⟩, _, _, rfl, rfl, _, _, rfl, rfl, (by show 3 ≤ sizeLine; decide), fun p hp => ?_⟩
    have m0 : 0 ≤ ns[i] % 2305843009213693951 := Int.emod_nonneg _ (by decide)
    have m1 : ns[i] % 2305843009213693951 < 2305843009213693951 := Int.emod_lt_of_pos _ (by decide)
    exact q _ p (same_upd hp) hp ⟨_, _, _, upd_same, Int.le_refl _, Int.le_refl _, by omega, by omega⟩

abbrev s__law_cells : Stmt := topS 11
def n__law_cells : List Str := ["_law_script", "_law_most", "_law_cells_here", "_law_k", "_law_cell"]
theorem sc__law_cells : FnScope n__law_cells ["_law_script", "_law_most"] (defScope s__law_cells) := ⟨rfl, rfl, rfl, by decide +kernel, rfl, by decide +kernel, by decide +kernel⟩
def spCells (K : PySem.W.Frag) : Sp := fun vs H Q _ => ∃ (a : Addr) (ns : List Int), vs = [.ref a, .int 2] ∧ SqL K H a (ns.map V.int) ∧ ns.length ≤ 63 ∧
  ∀ (H' : Hp) (p : Addr) (ms : List Int), Same H H' → H p = none → H' p = some (.lst (ms.map V.int)) → 1 ≤ ms.length → ms.length ≤ 2 → Q (.ref p) H'
theorem ok_cells {f : Addr} {fd : FuncData} {k : Nat} (F : Fun K "_law_cells" "_law_cells" s__law_cells f fd) (T : Txt mg) : FnOk P w K mg base CX0 (k + 1) f fd ["_law_script", "_law_most"] (spCells K) := by
  refine F.ok sc__law_cells (fun vs H Q E h => ?_) (fun cdv A outer s H vs Q E hr h => ?_)
  · obtain ⟨a, ns, rfl, _⟩ := h
    rfl
  · obtain ⟨a, ns, rfl, hS, h63, q⟩ := h
    have nd := sc__law_cells.nd
    refine ⟨_, (pss_cons (ps_set (i := 2) nd rfl (.inl rfl) (pe_orT (pe_callTy (kc_list (K := K)) (by rfl) T.list (by decide +kernel) (pa_cons (pe_slice (kl_list (K := K)) (pv 0) po_none (po_some (pv 1))) pa_nil)) (pe_one (pe_lst (pa_cons pe_int pa_nil)))))
      (pss_cons (ps_for PassesOwn.never rfl (ki_enum (K := K) (by rfl) T.enumerate (pa_cons (pe_slice (kl_list (K := K)) (pv 0) (po_some (pv 1)) (po_some pe_int)) pa_nil)) (kg_tup (K := K) (n := 2) (pgs_cons (pg_name (i := 3) nd rfl (.inl rfl)) (pgs_cons (pg_name (i := 4) nd rfl (.inl rfl)) pgs_nil)))
          (pss_one (ps_asg (pe_op op_add (pe_ix (kx_list (K := K)) (pv 2) (pe_op op_mod (pv 3) (pv 1)) (fun _ _ => rfl)) (pe_op op_mul (pv 4) (pe_op op_add (pv 3) pe_int))) (pg_sub (pv 2) (pe_op op_mod (pv 3) (pv 1)) set_list))))
      (pss_one (ps_ret (pv 2))))), ?_⟩
    refine ⟨_, rfl, _, rfl, 2, rfl, a, _, rfl, hS, fun p1 n1 => ?_⟩
    rw [show cutV (ns.map V.int) none (some 2) = (ns.take 2).map V.int by rw [show (2 : Int) = ((2 : Nat) : Int) from rfl, cut_head, List.map_take]]
    refine ⟨p1, _, rfl, .inl (SqL.of upd_same), fun p np => ?_⟩
    have s1 : Same H (upd (upd H p1 (.lst ((ns.take 2).map V.int))) p (.lst ((ns.take 2).map V.int))) := (same_upd n1).trans (same_upd np)
    have np0 : H p = none := (same_upd n1).free np
    have hp : upd (upd H p1 (.lst ((ns.take 2).map V.int))) p (.lst ((ns.take 2).map V.int)) p = some (.lst ((ns.take 2).map V.int)) := upd_same
    generalize upd (upd H p1 (.lst ((ns.take 2).map V.int))) p (.lst ((ns.take 2).map V.int)) = H1 at s1 hp ⊢
    by_cases hn : ns = []
    · refine ⟨false, .inl ⟨_, SqL.of hp, by rw [hn]; rfl⟩, ?_⟩
      rw [if_neg (by decide)]
      refine ⟨(by show 1 ≤ sizeLine; decide), fun c nc => ?_⟩
      have s2 := s1.trans (same_upd (o := .lst [.int 0]) nc)
      have nc := s1.free nc
      obtain ⟨ms, hc, l1, l2, l3⟩ : ∃ ms : List Int, upd H1 c (.lst [.int 0]) c = some (.lst (ms.map V.int)) ∧ 1 ≤ ms.length ∧ ms.length ≤ 2 ∧ (2 < ns.length → ms.length = 2) := ⟨[0], upd_same, by decide, by decide, fun h => by rw [hn] at h; simp at h⟩
      generalize upd H1 c (.lst [.int 0]) = H2 at s2 hc ⊢
      refine ⟨_, rfl, _, rfl, 2, rfl, 63, rfl, a, _, rfl, s2.seq hS, fun e ne => ?_⟩
      have ee : upd H2 e (.lst (cutV (ns.map V.int) (some 2) (some 63))) e = some (.lst (cutV (ns.map V.int) (some 2) (some 63))) := upd_same
      have s3 := same_upd (o := .lst (cutV (ns.map V.int) (some 2) (some 63))) ne
      have ce : c ≠ e := ne_of_none hc ne
      have hc := s3 _ _ hc
      have s2 := s2.trans s3
      generalize upd H2 e (.lst (cutV (ns.map V.int) (some 2) (some 63))) = H3 at ee s2 hc ⊢
      rw [cut_map] at ee
      have lcut : ((ns.drop (HT.sIx ns.length 0 (some 2))).take (HT.sIx ns.length ns.length (some 63) - HT.sIx ns.length 0 (some 2))).length ≤ ns.length - 2 := by
        rw [show HT.sIx ns.length 0 (some 2) = min 2 ns.length from HT.sIx_nat _ _ 2, List.length_take, List.length_drop]
        omega
      generalize (ns.drop (HT.sIx ns.length 0 (some 2))).take (HT.sIx ns.length ns.length (some 63) - HT.sIx ns.length 0 (some 2)) = es at ee lcut
      refine ⟨e, _, rfl, SqL.of ee, ?_⟩
      refine for_it (walk_enum (xs := es.map V.int)) (fun i σ H4 => ∃ v3 v4 ms, σ = [some (.ref a), some (.int 2), some (.ref c), v3, v4] ∧ Same H H4 ∧ H4 e = some (.lst (es.map V.int)) ∧ H4 c = some (.lst (ms.map V.int)) ∧ 1 ≤ ms.length ∧ ms.length ≤ 2 ∧ (2 < ns.length → ms.length = 2))
        ⟨none, none, ms, rfl, s2, ee, hc, l1, l2, l3⟩ (fun i σ H4 _ h => by obtain ⟨_, _, _, _, _, h, _⟩ := h; exact SqL.of h) ?_ ?_
      · rintro i x σ H4 H5 hi ⟨v3, v4, ms, rfl, s4, e4, c4, l1, l2, l3⟩ ⟨t, x1, x2, rfl, nt, rfl, g1, g2⟩
        cases g1
        replace g2 : (es.map V.int)[i]? = some x2 := g2
        rw [List.getElem?_map] at g2
        obtain ⟨y, gy, rfl⟩ := Option.map_eq_some_iff.mp g2
        rw [List.length_map] at hi
        have lm : ms.length = 2 := l3 (by omega)
        have s5 := same_upd (o := .tup [.int (i : Nat), .int y]) nt
        refine ⟨t, _, rfl, .inl (.inl upd_same), rfl, _, _, rfl, _, _, rfl, rfl, ?_⟩
        have e5 := s5 _ _ e4
        have c5 := s5 _ _ c4
        have s5 := s4.trans s5
        generalize upd H4 t (.tup [.int (i : Nat), .int y]) = H6 at e5 c5 s5 ⊢
        have em : ((i : Nat) : Int) % 2 = ((i % 2 : Nat) : Int) := by omega
        have lt : i % 2 < ms.length := by omega
        have ga : (ms.map V.int)[i % 2]? = some (.int ms[i % 2]) := by rw [List.getElem?_map, List.getElem?_eq_getElem lt]; rfl
        refine ⟨_, rfl, _, rfl, _, rfl, _, _, rfl, rfl, (by show (0 : Int) < 2; decide), c, _, _, _, rfl, rfl, SqL.of c5, (by rw [em]; exact atI_nat ga), ?_⟩
        refine ⟨_, rfl, _, rfl, _, _, rfl, rfl, _, _, rfl, rfl, .inr ⟨by omega, by omega⟩, _, _, rfl, rfl, ?_⟩
        refine ⟨_, rfl, _, rfl, _, rfl, _, _, rfl, rfl, (by show (0 : Int) < 2; decide), c, _, _, i % 2, rfl, rfl, c5, (by rw [em, List.length_map]; exact Evl.ixN_nat lt), ?_⟩
        refine ⟨_, _, ms.set (i % 2) (ms[i % 2] + y * ((i : Nat) + 2)), rfl, same_put s5 nc, (by rw [upd_ne ce.symm]; exact e5), (by rw [upd_same, List.map_set]), ?_, ?_, ?_⟩
        · rw [List.length_set]; exact l1
        · rw [List.length_set]; exact l2
        · rw [List.length_set]; exact l3
      · rintro σ H4 ⟨v3, v4, ms, rfl, s4, e4, c4, l1, l2, l3⟩
        exact ⟨_, rfl, q _ c ms s4 nc c4 l1 l2⟩
    · have lpos : 0 < ns.length := List.length_pos_iff.mpr hn
      refine ⟨true, .inl ⟨_, SqL.of hp, by cases ns with | nil => exact absurd rfl hn | cons _ _ => rfl⟩, ?_⟩
      rw [if_pos rfl]
      have s2 := s1
      have nc := np0
      obtain ⟨c, ec⟩ : ∃ c, c = p := ⟨p, rfl⟩
      rw [← ec] at hp nc ⊢
      obtain ⟨ms, hc, l1, l2, l3⟩ : ∃ ms : List Int, H1 c = some (.lst (ms.map V.int)) ∧ 1 ≤ ms.length ∧ ms.length ≤ 2 ∧ (2 < ns.length → ms.length = 2) := ⟨ns.take 2, hp, by rw [List.length_take]; omega, by rw [List.length_take]; omega, fun h => by rw [List.length_take]; omega⟩
      obtain ⟨H2, eH⟩ : ∃ H2, H2 = H1 := ⟨H1, rfl⟩
      rw [← eH] at s2 hc ⊢
      refine ⟨_, rfl, _, rfl, 2, rfl, 63, rfl, a, _, rfl, s2.seq hS, fun e ne => ?_⟩
      have ee : upd H2 e (.lst (cutV (ns.map V.int) (some 2) (some 63))) e = some (.lst (cutV (ns.map V.int) (some 2) (some 63))) := upd_same
      have s3 := same_upd (o := .lst (cutV (ns.map V.int) (some 2) (some 63))) ne
      have ce : c ≠ e := ne_of_none hc ne
      have hc := s3 _ _ hc
      have s2 := s2.trans s3
      generalize upd H2 e (.lst (cutV (ns.map V.int) (some 2) (some 63))) = H3 at ee s2 hc ⊢
      rw [cut_map] at ee
      have lcut : ((ns.drop (HT.sIx ns.length 0 (some 2))).take (HT.sIx ns.length ns.length (some 63) - HT.sIx ns.length 0 (some 2))).length ≤ ns.length - 2 := by
        rw [show HT.sIx ns.length 0 (some 2) = min 2 ns.length from HT.sIx_nat _ _ 2, List.length_take, List.length_drop]
        omega
      generalize (ns.drop (HT.sIx ns.length 0 (some 2))).take (HT.sIx ns.length ns.length (some 63) - HT.sIx ns.length 0 (some 2)) = es at ee lcut
      refine ⟨e, _, rfl, SqL.of ee, ?_⟩
      refine for_it (walk_enum (xs := es.map V.int)) (fun i σ H4 => ∃ v3 v4 ms, σ = [some (.ref a), some (.int 2), some (.ref c), v3, v4] ∧ Same H H4 ∧ H4 e = some (.lst (es.map V.int)) ∧ H4 c = some (.lst (ms.map V.int)) ∧ 1 ≤ ms.length ∧ ms.length ≤ 2 ∧ (2 < ns.length → ms.length = 2))
        ⟨none, none, ms, rfl, s2, ee, hc, l1, l2, l3⟩ (fun i σ H4 _ h => by obtain ⟨_, _, _, _, _, h, _⟩ := h; exact SqL.of h) ?_ ?_
      · rintro i x σ H4 H5 hi ⟨v3, v4, ms, rfl, s4, e4, c4, l1, l2, l3⟩ ⟨t, x1, x2, rfl, nt, rfl, g1, g2⟩
        cases g1
        replace g2 : (es.map V.int)[i]? = some x2 := g2
        rw [List.getElem?_map] at g2
        obtain ⟨y, gy, rfl⟩ := Option.map_eq_some_iff.mp g2
        rw [List.length_map] at hi
        have lm : ms.length = 2 := l3 (by omega)
        have s5 := same_upd (o := .tup [.int (i : Nat), .int y]) nt
        refine ⟨t, _, rfl, .inl (.inl upd_same), rfl, _, _, rfl, _, _, rfl, rfl, ?_⟩
        have e5 := s5 _ _ e4
        have c5 := s5 _ _ c4
        have s5 := s4.trans s5
        generalize upd H4 t (.tup [.int (i : Nat), .int y]) = H6 at e5 c5 s5 ⊢
        have em : ((i : Nat) : Int) % 2 = ((i % 2 : Nat) : Int) := by omega
        have lt : i % 2 < ms.length := by omega
        have ga : (ms.map V.int)[i % 2]? = some (.int ms[i % 2]) := by rw [List.getElem?_map, List.getElem?_eq_getElem lt]; rfl
        refine ⟨_, rfl, _, rfl, _, rfl, _, _, rfl, rfl, (by show (0 : Int) < 2; decide), c, _, _, _, rfl, rfl, SqL.of c5, (by rw [em]; exact atI_nat ga), ?_⟩
        refine ⟨_, rfl, _, rfl, _, _, rfl, rfl, _, _, rfl, rfl, .inr ⟨by omega, by omega⟩, _, _, rfl, rfl, ?_⟩
        refine ⟨_, rfl, _, rfl, _, rfl, _, _, rfl, rfl, (by show (0 : Int) < 2; decide), c, _, _, i % 2, rfl, rfl, c5, (by rw [em, List.length_map]; exact Evl.ixN_nat lt), ?_⟩
        refine ⟨_, _, ms.set (i % 2) (ms[i % 2] + y * ((i : Nat) + 2)), rfl, same_put s5 nc, (by rw [upd_ne ce.symm]; exact e5), (by rw [upd_same, List.map_set]), ?_, ?_, ?_⟩
        · rw [List.length_set]; exact l1
        · rw [List.length_set]; exact l2
        · rw [List.length_set]; exact l3
      · rintro σ H4 ⟨v3, v4, ms, rfl, s4, e4, c4, l1, l2, l3⟩
        exact ⟨_, rfl, q _ c ms s4 nc c4 l1 l2⟩

end
end Pot

namespace Pot
open PySem PySem.Spec PyProof.Rows L2
section
variable {P : Program} {w : World} {K : PySem.W.Frag} {mg : Str → Option Value} {base : Heap}
abbrev s__law_names : Stmt := topS 12
def n__law_names : List Str := ["_law_box_here", "_law_many", "_law_letters", "_law_found", "_law_k", "_law_stem", "_law_at", "_law_first", "_law_longer", "_law_one"]
theorem sc__law_names : FnScope n__law_names ["_law_box_here", "_law_many"] (defScope s__law_names) := ⟨rfl, rfl, rfl, by decide +kernel, rfl, by decide +kernel, by decide +kernel⟩
def spNames : Sp := fun vs H Q _ => ∃ (b : Addr) (n m : Nat), vs = [.ref b, .int (m : Nat)] ∧ Bp H b n ∧ n + 2000 < 2 ^ 40 ∧ m ≤ 12 ∧
  ∀ (H' : Hp) (L : Addr) (ys : List Str), Bp H' b (n + 20) → Sm [b] H H' → H L = none → H' L = some (.lst (ys.map V.str)) → ys.length = m → (∀ y ∈ ys, Nm y) → Q (.ref L) H'
theorem ok_names {f : Addr} {fd : FuncData} {k : Nat} (F : Fun K "_law_names" "_law_names" s__law_names f fd) (T : Txt mg) (c__law_take : Cl P w K mg base (k + 1) "_law_take" spTake) : FnOk P w K mg base CX0 (k + 2) f fd ["_law_box_here", "_law_many"] spNames := by
  refine F.ok sc__law_names (fun vs H Q E h => ?_) (fun cdv A outer s H vs Q E hr h => ?_)
  · obtain ⟨b, n, m, rfl, _⟩ := h
    rfl
  · obtain ⟨b, n, m, rfl, B, hn, hm, q⟩ := h
    have nd := sc__law_names.nd
    /- 0 _law_box_here, 1 _law_many, 2 _law_letters, 3 _law_found, 4 _law_k, 5 _law_stem, 6 _law_at, 7 _law_first, 8 _law_longer, 9 _law_one -/
    refine ⟨_, (pss_cons (ps_asg (pe_tup (pa_cons pe_str (pa_cons (pe_lst pa_nil) pa_nil))) (kg_tup (K := K) (n := 2) (pgs_cons (pg_name (i := 2) nd rfl (.inr rfl)) (pgs_cons (pg_name (i := 3) nd rfl (.inl rfl)) pgs_nil))))
      (pss_cons (ps_set (i := 5) nd rfl (.inl rfl) (ke_join (K := K) pe_str (pe_lc (own := [("_law_k", 4)]) rfl nd (pi_range1 (by rfl) T.range (pa_cons (pe_cl c__law_take hr (by omega) (by rfl) (pa_cons (pv 0) (pa_cons pe_int pa_nil))) pa_nil)) (blkOk_by (N := n__law_names) (sc := defScope s__law_names) (by decide +kernel)) (fun _ _ _ _ _ => (pg_name (i := 4) nd rfl (.inl rfl))) (fun _ _ _ _ _ => pts_nil) (fun _ _ _ _ _ => (pe_ix ix_str (pv 2) (pe_cl c__law_take hr (by omega) (by rfl) (pa_cons (pv 0) (pa_cons pe_int pa_nil))) (fun _ _ => rfl))))))
      (pss_cons (ps_par3 (i := 6) (j := 7) (l := 8) rfl nd rfl rfl rfl (by decide) (by decide) (by decide) rfl rfl rfl (pa_cons (pe_cl c__law_take hr (by omega) (by rfl) (pa_cons (pv 0) (pa_cons (pe_op op_add (pe_callB (kc_len (K := K)) (by rfl) T.len PySem.boot_len (pa_cons (pv 5) pa_nil)) pe_int) pa_nil))) (pa_cons (pe_cl c__law_take hr (by omega) (by rfl) (pa_cons (pv 0) (pa_cons pe_int pa_nil))) (pa_cons (pe_cl c__law_take hr (by omega) (by rfl) (pa_cons (pv 0) (pa_cons pe_int pa_nil))) pa_nil))) rfl)
      (pss_cons (ps_for PassesOwn.never rfl (pi_range1 (by rfl) T.range (pa_cons (pv 1) pa_nil)) (pg_name (i := 4) nd rfl (.inl rfl))
          (pss_cons (ps_set (i := 9) nd rfl (.inl rfl) (pe_op op_add_str (pe_op op_add_str (pe_slice sl_str (pv 5) po_none (po_some (pv 6))) (pe_ix ix_str (pv 2) (pe_op op_mod (pe_op op_add (pv 7) (pe_op op_mul pe_int (pv 4))) pe_int) (fun _ _ => rfl))) (pe_slice sl_str (pv 5) (po_some (pv 6)) po_none)))
          (pss_one (ps_expr (pe_bm PySem.F.plainAttrs_list PySem.F.slot_list_append PySem.F.type_list_append mt_append (pv 3) (pa_cons (pe_ifExp (pt_cmpR op_eq (pe_op op_mod (pe_op op_mul (pv 8) (pv 4)) pe_int) pe_int (nomark _)) (pe_op op_add_str (pe_ix (kx_list (K := K)) (pv 3) (pe_un un_neg pe_int) (fun _ _ => rfl)) (pe_ix ix_str (pv 2) (pe_op op_mod (pe_op op_add (pv 7) (pv 4)) pe_int) (fun _ _ => rfl))) (pv 9)) pa_nil))))))
      (pss_one (ps_ret (pv 3))))))), ?_⟩
    have lv := Live.pw B
    have sc : Sm [b] H H := Same.refl _
    obtain ⟨S, eS⟩ : ∃ S, S = [b] := ⟨_, rfl⟩
    have hb : b ∈ S := by rw [eS]; simp
    rw [← eS] at lv
    refine ⟨Nat.zero_le _, fun L nL => ?_⟩
    have nL0 := sm_free sc B.bx nL
    have Lb := B.ne nL
    have fL := off_new (o := .lst []) lv nL
    have lv := lv.put (o := .lst []) nL
    have B := B.put (o := .lst []) nL
    have sc := sc.trans (sm_put (S := [b]) (o := .lst []) nL)
    generalize upd H L (.lst []) = H1 at fL lv B sc  ⊢
    refine ⟨(by show 2 ≤ sizeLine; decide), fun t nt => ?_⟩
    have ft := off_new (o := .tup [.str "abcdefghijklmnopqrstuvwxyz", .ref L]) lv nt
    have lv := lv.put (o := .tup [.str "abcdefghijklmnopqrstuvwxyz", .ref L]) nt
    have B := B.put (o := .tup [.str "abcdefghijklmnopqrstuvwxyz", .ref L]) nt
    have sc := sc.trans (sm_put (S := [b]) (o := .tup [.str "abcdefghijklmnopqrstuvwxyz", .ref L]) nt)
    have fL := (sm_put (S := S) (o := .tup [.str "abcdefghijklmnopqrstuvwxyz", .ref L]) nt) _ _ fL
    generalize upd H1 t (.tup [.str "abcdefghijklmnopqrstuvwxyz", .ref L]) = H2 at ft lv B sc fL ⊢
    refine ⟨t, _, rfl, .inl (.inl (at_off ft)), rfl, _, _, rfl, _, _, rfl, rfl, ?_⟩
    refine ⟨⟨_, rfl⟩, _, rfl, b, 7, _, rfl, (by decide), (by decide), B, by omega, fun H6 sn s0 s1 B4 s4 => ⟨_, rfl, (by omega), (by omega), fun D nD => ?_⟩⟩
    have lv := lv.box B4.bx s4
    have sc := sc.trans s4
    have B := B4
    have fL := (sm_one hb s4) _ _ fL
    have nDb := B.ne nD
    refine lc_it walk_range (fun i H5 => Bp H5 b (n + 1 + i) ∧ Sm [b] H6 H5 ∧ ∃ ys : List Str, H5 D = some (.lst (ys.map V.str)) ∧ ys.length = i ∧ ∀ y ∈ ys, Wd 1 y) ⟨(B.put nD).mono (by omega), sm_put nD, [], upd_same, rfl, fun _ h => (List.not_mem_nil h).elim⟩ (fun _ _ _ _ => trivial) ?_ ?_
    · rintro i x H5 H6 hi ⟨B5, s5, ys, hL, hy, hw⟩ ⟨rfl, rfl⟩
      refine ⟨rfl, tYes_at ?_⟩
      rw [if_pos rfl]
      refine ⟨_, rfl, _, rfl, b, 26, _, rfl, (by decide), (by decide), B5, by omega, fun H7 r r0 r1 B7 s7 => ?_⟩
      refine ⟨_, r, 97 + r.toNat, rfl, rfl, (by decide +kernel), az_ix r0 r1, _, sm1_at s7 nDb hL, ?_, (B7.wr nDb).mono (by omega), smp (s5.trans s7) nD, ys ++ [⟨#[97 + r.toNat]⟩], ?_, ?_, ?_⟩
      · rw [List.length_map, hy]; exact Nat.lt_of_lt_of_le (show i < 8 by omega) (by decide)
      · rw [upd_same, List.map_append]; rfl
      · rw [List.length_append, hy]; rfl
      · intro y h
        rcases List.mem_append.mp h with h | h
        · exact hw y h
        · rw [List.mem_singleton.mp h]; exact wd_letter r0 r1
    rintro H7 ⟨B5, s5, ys, hD, hy, hw⟩
    have lv := lv.box B5.bx s5
    have sc := sc.trans s5
    have B := B5
    have fL := (sm_one hb s5) _ _ fL
    have hy7 : ys.length ≤ 6 := by omega
    refine ⟨_, D, ys, rfl, rfl, .inl (SqL.of hD), ?_, ?_⟩
    · have := wd1_sum hw
      show _ + ys.length * 0 ≤ _
      omega
    have hst : Wd 6 (Txt.join (Str.ofString "") ys) := by rw [TL.join_eq]; exact (wd_join hw).mono hy7
    have B := B.mono (show _ ≤ n + 7 by omega)
    generalize Txt.join (Str.ofString "") ys = st at hst ⊢
    clear hD hy hw hy7
    refine ⟨_, rfl, _, rfl, _, _, rfl, ⟨wd_small hst (by decide), rfl⟩, _, _, rfl, rfl, b, _, _, rfl, (by have := hst.1; omega), (by have := hst.1; omega), B, by omega, fun H8 a a0 a1 B8 s8 => ?_⟩
    have lv := lv.box B8.bx s8
    have sc := sc.trans s8
    have B := B8
    have fL := (sm_one hb s8) _ _ fL
    refine ⟨_, rfl, b, 26, _, rfl, (by decide), (by decide), B, by omega, fun H9 fi f0 f1 B9 s9 => ?_⟩
    have lv := lv.box B9.bx s9
    have sc := sc.trans s9
    have B := B9
    have fL := (sm_one hb s9) _ _ fL
    refine ⟨_, rfl, b, 2, _, rfl, (by decide), (by decide), B, by omega, fun H10 lo l0 l1 B10 s10 => ⟨_, _, _, rfl, ?_⟩⟩
    have lv := lv.box B10.bx s10
    have sc := sc.trans s10
    have B := B10
    have fL := (sm_one hb s10) _ _ fL
    obtain ⟨a, rfl⟩ : ∃ a2 : Nat, a = (a2 : Int) := ⟨a.toNat, by omega⟩
    have hL := at_off fL
    refine ⟨_, rfl, _, rfl, (by omega), (by omega), ?_⟩
    rw [Int.toNat_natCast]
    refine for_it walk_range (fun i σ H3 => ∃ v4 v9, σ = [some (.ref b), some (.int (m : Nat)), some (.str "abcdefghijklmnopqrstuvwxyz"), some (.ref L), v4, some (.str st), some (.int (a : Nat)), some (.int fi), some (.int lo), v9] ∧ Bp H3 b (n + 20) ∧ Sm [b] H H3 ∧ ∃ ys : List Str, H3 L = some (.lst (ys.map V.str)) ∧ ys.length = i ∧ (∀ y ∈ ys, Nm y) ∧ ∀ p y, ys[p]? = some y → p % 2 = 0 → Wd 7 y)
      ⟨_, _, rfl, B.mono (by omega), sc, [], hL, rfl, (fun _ h => (List.not_mem_nil h).elim), fun p y h => by simp at h⟩ (fun _ _ _ _ _ => trivial) ?_ ?_
    · rintro i x σ H11 H12 hi ⟨v4, v9, rfl, B, sc, ys, hL, hy, hw, hev⟩ ⟨rfl, rfl⟩
      have nn : 0 ≤ (fi + 3 * (0 + (i : Int))) % 26 := Int.emod_nonneg _ (by decide)
      have nn1 : (fi + 3 * (0 + (i : Int))) % 26 < 26 := Int.emod_lt_of_pos _ (by decide)
      have mm : 0 ≤ (fi + (0 + (i : Int))) % 26 := Int.emod_nonneg _ (by decide)
      have mm1 : (fi + (0 + (i : Int))) % 26 < 26 := Int.emod_lt_of_pos _ (by decide)
      have h6 := hst.1
      have l1 := cut_small st none (some (a : Int))
      have l2 := cut_small st (some (a : Int)) none
      have w1 := wd_cut (lo := none) (hi := some (a : Int)) hst
      have wl := wd_letter nn nn1
      refine ⟨_, rfl, _, rfl, _, rfl, _, rfl, wd_small hst (by decide), _, rfl, _, rfl, _, rfl, _, _, rfl, rfl, .inl ⟨by decide, by decide⟩, _, _, rfl, rfl, _, _, rfl, rfl, (by show (0 : Int) < 26; decide), _, _, _, rfl, rfl, (by decide +kernel), az_ix nn nn1, _, _, rfl, rfl, ?_, ?_⟩
      · show _ + 1 ≤ sizeLine
        rw [sizeLine_eq]; omega
      refine ⟨_, rfl, _, rfl, _, rfl, _, rfl, wd_small hst (by decide), _, _, rfl, rfl, ?_, ?_⟩
      · rw [strLen_append, sizeLine_eq]
        show _ + 1 + _ ≤ _
        omega
      obtain ⟨on, eon⟩ : ∃ on, on = cutS st none (some (a : Int)) ++ (⟨#[97 + ((fi + 3 * (0 + (i : Int))) % 26).toNat]⟩ : Str) ++ cutS st (some (a : Int)) none := ⟨_, rfl⟩
      have lon : on.length = (cutS st none (some (a : Int))).length + 1 + (cutS st (some (a : Int)) none).length := by rw [eon, strLen_append, strLen_append]; rfl
      have lcut : (cutS st none (some (a : Int))).length + (cutS st (some (a : Int)) none).length ≤ 6 := by
        have h1 := cut_len st none (some (a : Int))
        have h2 := cut_len st (some (a : Int)) none
        rw [HT.sIx_nat, HT.sIx_none] at h1
        rw [HT.sIx_nat, HT.sIx_none] at h2
        omega
      have won : Wd 7 on := by
        refine ⟨by omega, fun c hc => ?_⟩
        rw [eon] at hc
        exact (wd_add (wd_add w1 wl) (wd_cut (lo := some (a : Int)) (hi := none) hst)).2 c hc
      show gName 9 (V.str (cutS st none (some (a : Int)) ++ (⟨#[97 + ((fi + 3 * (0 + (i : Int))) % 26).toNat]⟩ : Str) ++ cutS st (some (a : Int)) none)) _ _ _
      rw [← eon]
      clear eon
      have small : (ys.map V.str).length < sizeLine := by rw [List.length_map, sizeLine_eq]; omega
      have fin : ∀ (nm : Str), Nm nm → (i % 2 = 0 → Wd 7 nm) →
          ∃ v4 v9, [some (V.ref b), some (.int (m : Nat)), some (.str "abcdefghijklmnopqrstuvwxyz"), some (.ref L), some (.int (0 + (i : Int))), some (.str st), some (.int (a : Nat)), some (.int fi), some (.int lo), some (.str on)] = [some (V.ref b), some (.int (m : Nat)), some (.str "abcdefghijklmnopqrstuvwxyz"), some (.ref L), v4, some (.str st), some (.int (a : Nat)), some (.int fi), some (.int lo), v9] ∧ Bp (upd H12 L (.lst (ys.map V.str ++ [.str nm]))) b (n + 20) ∧ Sm [b] H (upd H12 L (.lst (ys.map V.str ++ [.str nm]))) ∧ ∃ ys2 : List Str, upd H12 L (.lst (ys.map V.str ++ [.str nm])) L = some (.lst (ys2.map V.str)) ∧ ys2.length = i + 1 ∧ (∀ y ∈ ys2, Nm y) ∧ ∀ p y, ys2[p]? = some y → p % 2 = 0 → Wd 7 y := by
        intro nm hn he
        refine ⟨_, _, rfl, B.wr Lb, smp sc nL0, ys ++ [nm], by rw [upd_same, List.map_append]; rfl, by rw [List.length_append, hy]; rfl, fun y h => ?_, fun p y hp h2 => ?_⟩
        · rcases List.mem_append.mp h with h | h
          · exact hw y h
          · rw [List.mem_singleton.mp h]; exact hn
        · rcases Nat.lt_or_ge p ys.length with k | k
          · rw [List.getElem?_append_left k] at hp
            exact hev p y hp h2
          · rw [List.getElem?_append_right k] at hp
            have e0 : p = ys.length := by
              rcases Nat.lt_or_ge (p - ys.length) 1 with q | q
              · omega
              · rw [List.getElem?_eq_none (by simpa using q)] at hp; cases hp
            subst e0
            have : nm = y := by simpa using hp
            subst this
            exact he (by omega)
      have nmon : Nm on := ⟨won.mono (by decide), by omega⟩
      refine ⟨_, rfl, .inl ⟨rfl, _, SqL.of hL⟩, _, rfl, _, rfl, _, _, rfl, rfl, .inl ⟨by omega, by omega⟩, _, _, rfl, rfl, (by show (0 : Int) < 2; decide), rfl, _, rfl, ite2 (fun h1 => ?_) (fun h1 => ?_)⟩
      · have e1 : lo * (0 + (i : Int)) % 2 = 1 := V.int.inj (of_decide_eq_true h1)
        have i2 : i % 2 = 1 := by
          have h : lo = 0 ∨ lo = 1 := by omega
          rcases h with rfl | rfl
          · rw [Int.zero_mul] at e1; cases e1
          · rw [Int.one_mul] at e1; omega
        have ne2 : ys ≠ [] := fun z => by rw [z] at hy; simp at hy; omega
        obtain ⟨hd, y0, e0⟩ : ∃ hd y0, ys = hd ++ [y0] := ⟨_, _, (List.dropLast_concat_getLast ne2).symm⟩
        have el : atI (ys.map V.str) (-1) = some (.str y0) := by
          rw [e0, List.map_append]; exact atI_last _ _
        have lhd : hd.length = i - 1 := by rw [e0, List.length_append] at hy; have : [y0].length = 1 := rfl; omega
        have wy0 : Wd 7 y0 := hev hd.length y0 (by rw [e0]; simp) (by omega)
        have ly := wy0.1
        refine ⟨_, rfl, 1, rfl, L, _, -1, _, rfl, rfl, SqL.of hL, el, _, rfl, _, rfl, _, rfl, _, _, rfl, rfl, _, _, rfl, rfl, (by show (0 : Int) < 26; decide), _, _, _, rfl, rfl, (by decide +kernel), az_ix mm mm1, _, _, rfl, rfl, ?_, ?_⟩
        · show _ + 1 ≤ sizeLine
          rw [sizeLine_eq]; omega
        refine ⟨L, _, _, rfl, rfl, hL, small, fin _ ⟨wd_add wy0 (wd_letter mm mm1), by rw [strLen_append]; show 0 < _ + 1; omega⟩ (fun z => by omega)⟩
      · exact ⟨_, rfl, L, _, _, rfl, rfl, hL, small, fin _ nmon (fun _ => won)⟩
    · rintro σ H11 ⟨v4, v9, rfl, B, sc, ys, hL, hy, hw, hev⟩
      exact ⟨_, rfl, q _ L ys B sc nL0 hL hy hw⟩

end
end Pot

namespace Pot
open PySem PySem.Spec PyProof.Rows L2
section
variable {P : Program} {w : World} {K : PySem.W.Frag} {mg : Str → Option Value} {base : Heap}
structure PalE (cs : List Col) (ws : List Wsh) : Prop where
  ok : PalOk cs ws
  ne : 0 < cs.length
  le : cs.length ≤ 6
  ch : ∀ c ∈ cs, 1 ≤ c.2.1 ∧ c.2.1 ≤ 3 ∧ 0 ≤ c.2.2.1 ∧ c.2.2.1 ≤ 4 ∧ 1 ≤ c.2.2.2 ∧ c.2.2.2 ≤ 999
  wd : ∀ c ∈ cs, Nm c.1
  wa : ∀ r ∈ ws, (∀ i, r.2.2 = some i → 0 ≤ i ∧ i ≤ 3) ∧ Nm r.1 ∧ Nm r.2.1
abbrev s__law_palette : Stmt := topS 13
def n__law_palette : List Str := ["_law_box_here", "_law_most", "_law_names_here", "_law_colours", "_law_washes", "_law_name", "_law_gathers", "_law_other", "_law_barred"]
theorem sc__law_palette : FnScope n__law_palette ["_law_box_here", "_law_most"] (defScope s__law_palette) := ⟨rfl, rfl, rfl, by decide +kernel, rfl, by decide +kernel, by decide +kernel⟩
def spPalette (K : PySem.W.Frag) : Sp := fun vs H Q _ => ∃ (b : Addr) (n : Nat), vs = [.ref b, .int 6] ∧ Bp H b n ∧ n + 5000 < 2 ^ 40 ∧
  ∀ (H' : Hp) (v : V) (cs : List Col) (ws : List Wsh), Bp H' b (n + 300) → Sm [b] H H' → Dp K (off H' [b]) v (palD cs ws) → PalE cs ws → Q v H'
theorem ok_palette {f : Addr} {fd : FuncData} {k : Nat} (F : Fun K "_law_palette" "_law_palette" s__law_palette f fd) (T : Txt mg) (c__law_take : Cl P w K mg base (k + 1) "_law_take" spTake) (c__law_names : Cl P w K mg base (k + 2) "_law_names" spNames) : FnOk P w K mg base CX0 (k + 3) f fd ["_law_box_here", "_law_most"] (spPalette K) := by
  refine F.ok sc__law_palette (fun vs H Q E h => ?_) (fun cdv A outer s H vs Q E hr h => ?_)
  · obtain ⟨b, n, rfl, _⟩ := h
    rfl
  · obtain ⟨b, n, rfl, B, hn, q⟩ := h
    have nd := sc__law_palette.nd
    /- 0 _law_box_here, 1 _law_most, 2 _law_names_here, 3 _law_colours, 4 _law_washes, 5 _law_name, 6 _law_gathers, 7 _law_other, 8 _law_barred -/
    refine ⟨_, (pss_cons (ps_set (i := 2) nd rfl (.inl rfl) (pe_callB (kc_sortedS (K := K)) (by rfl) T.sorted (by decide +kernel) (pa_cons (pe_cl c__law_names hr (by omega) (by rfl) (pa_cons (pv 0) (pa_cons (pe_op op_add pe_int (pe_cl c__law_take hr (by omega) (by rfl) (pa_cons (pv 0) (pa_cons (pv 1) pa_nil)))) pa_nil))) pa_nil)))
      (pss_cons (ps_par (i := 3) (j := 4) rfl nd rfl rfl (by decide) rfl rfl (pa_cons (pe_lst pa_nil) (pa_cons (pe_lst pa_nil) pa_nil)) rfl)
      (pss_cons (ps_for PassesOwn.never rfl (ki_list (K := K) (pv 2)) (pg_name (i := 5) nd rfl (.inl rfl))
          (pss_cons (ps_set (i := 6) nd rfl (.inl rfl) (pe_op op_add pe_int (pe_cl c__law_take hr (by omega) (by rfl) (pa_cons (pv 0) (pa_cons (pe_ix (kx_list (K := K)) (pe_lst (pa_cons pe_int (pa_cons pe_int (pa_cons pe_int pa_nil)))) (pe_cl c__law_take hr (by omega) (by rfl) (pa_cons (pv 0) (pa_cons pe_int pa_nil))) (fun _ _ => rfl)) pa_nil)))))
          (pss_cons (ps_expr (pe_bm PySem.F.plainAttrs_list PySem.F.slot_list_append PySem.F.type_list_append mt_append (pv 3) (pa_cons (pe_tup (pa_cons (pv 5) (pa_cons (pe_op op_add pe_int (pe_cl c__law_take hr (by omega) (by rfl) (pa_cons (pv 0) (pa_cons pe_int pa_nil)))) (pa_cons (pe_cl c__law_take hr (by omega) (by rfl) (pa_cons (pv 0) (pa_cons pe_int pa_nil))) (pa_cons (pv 6) pa_nil))))) pa_nil)))
          (pss_one (ps_for PassesOwn.never rfl (ki_list (K := K) (pv 2)) (pg_name (i := 7) nd rfl (.inl rfl))
              (pss_one (ps_if ((pw_and (pt_cmpR op_ne (pv 7) (pv 5) (nomark _)) (pw_and1 (pt_cmpR op_eq (pe_cl c__law_take hr (by omega) (by rfl) (pa_cons (pv 0) (pa_cons pe_int pa_nil))) pe_int (nomark _))))).pt
                  (pss_cons (ps_set (i := 8) nd rfl (.inl rfl) (pe_cmpR op_eq (pe_cl c__law_take hr (by omega) (by rfl) (pa_cons (pv 0) (pa_cons pe_int pa_nil))) pe_int (nomark _)))
                  (pss_one (ps_expr (pe_bm PySem.F.plainAttrs_list PySem.F.slot_list_append PySem.F.type_list_append mt_append (pv 4) (pa_cons (pe_tup (pa_cons (pv 5) (pa_cons (pv 7) (pa_cons (pe_ifExp (pt_val (pv 8)) pe_non (pe_cl c__law_take hr (by omega) (by rfl) (pa_cons (pv 0) (pa_cons pe_int pa_nil)))) pa_nil)))) pa_nil)))))
                  pss_nil)))))))
      (pss_one (ps_ret (pe_tup (pa_cons (pe_callTy (kc_tuple (K := K)) (by rfl) T.tuple (by decide +kernel) (pa_cons (pv 3) pa_nil)) (pa_cons (pe_callTy (kc_tuple (K := K)) (by rfl) T.tuple (by decide +kernel) (pa_cons (pv 4) pa_nil)) pa_nil)))))))), ?_⟩
    refine ⟨_, rfl, _, rfl, _, rfl, b, 6, n, rfl, (by decide), (by decide), B, by omega, fun H1 r1 r10 r11 B1 s1 => ⟨_, _, rfl, rfl, ?_⟩⟩
    obtain ⟨m, em⟩ : ∃ m : Nat, (1 : Int) + r1 = (m : Int) := ⟨(1 + r1).toNat, by omega⟩
    refine ⟨b, n + 1, m, (by show [V.ref b, V.int (1 + r1)] = _; rw [em]), B1, by omega, by omega, fun H2 N0 ys B2 s2 nN hN ly wy => ?_⟩
    have sc := s1.trans s2
    refine ⟨N0, ys, rfl, SqL.of hN, (by omega), fun zs N hz hsort nZ => ?_⟩
    have lz : zs.length = m := by rw [hz.length_eq]; exact ly
    have nz : ∀ y ∈ zs, Nm y := fun y hy => wy y (hz.mem_iff.mp hy)
    have lv : Live [b] H2 := Live.pw B2
    have fN := off_new (o := .lst (zs.map V.str)) lv nZ
    have B := B2.put (o := .lst (zs.map V.str)) nZ
    have sc := sc.trans (sm_put (S := [b]) (o := .lst (zs.map V.str)) nZ)
    generalize upd H2 N (.lst (zs.map V.str)) = H3 at fN B sc ⊢
    have lv : Live [b] H3 := Live.pw B
    refine ⟨Nat.zero_le _, fun C nC => ⟨Nat.zero_le _, fun W nW => ⟨_, _, rfl, ?_⟩⟩⟩
    have Cb := B.ne nC
    have nC0 := sm_free sc B.bx nC
    have CW : C ≠ W := ne_of_none upd_same nW
    have Wb := (B.put nC).ne nW
    have nW0 := sm_free (sc.trans (sm_put nC)) (B.put nC).bx nW
    have ap : PAc H b C W := ⟨Cb, Wb, CW, nC0, nW0⟩
    have start : PMc K H b C W N zs (n + 21) [] [] [] [] (upd (upd H3 C (.lst [])) W (.lst [])) := by
      have e1 : off (upd (upd H3 C (.lst [])) W (.lst [])) [C, W, b] N = some (.lst (zs.map V.str)) := by
        have hN3 := at_off fN
        have Nb : N ∉ [b] := off_mem fN
        have NC : N ≠ C := ne_of_none hN3 nC
        have NW : N ≠ W := ne_of_none (same_upd nC _ _ hN3) nW
        rw [off_out (by simp only [List.mem_cons, List.not_mem_nil, or_false] at Nb ⊢; rintro (h | h | h); exact NC h; exact NW h; exact Nb h)]
        exact same_upd nW _ _ (same_upd nC _ _ hN3)
      exact ⟨((B.put nC).put nW).mono (by omega), (sc.trans (sm_put nC)).trans (sm_put nW), e1, by rw [upd_ne CW]; exact upd_same, .nil, upd_same, .nil⟩
    generalize upd (upd H3 C (.lst [])) W (.lst []) = H5 at start ⊢
    have m6 : m ≤ 6 := by omega
    refine ⟨_, rfl, N, rfl, ⟨_, SqL.of (at_off start.hN)⟩, ?_⟩
    refine for_it (walk_list (xs := zs.map V.str)) (fun i σ H6 => ∃ v5 v6 v7 v8 xs us cs ws, σ = [some (.ref b), some (.int 6), some (.ref N), some (.ref C), some (.ref W), v5, v6, v7, v8] ∧ PMc K H b C W N zs (n + 21 + 22 * i) xs us cs ws H6 ∧ PalOk cs ws ∧ cs.length = i ∧ ws.length ≤ 6 * i ∧ (∀ c ∈ cs, (1 ≤ c.2.1 ∧ c.2.1 ≤ 3 ∧ 0 ≤ c.2.2.1 ∧ c.2.2.1 ≤ 4 ∧ 1 ≤ c.2.2.2 ∧ c.2.2.2 ≤ 999) ∧ Nm c.1) ∧ ∀ r ∈ ws, (∀ i, r.2.2 = some i → 0 ≤ i ∧ i ≤ 3) ∧ Nm r.1 ∧ Nm r.2.1)
      ⟨_, _, _, _, [], [], [], [], rfl, start, ⟨Nat.zero_le _, Nat.zero_le _, fun _ h => (List.not_mem_nil h).elim, fun _ h => (List.not_mem_nil h).elim⟩, rfl, Nat.zero_le _, (fun _ h => (List.not_mem_nil h).elim), fun _ h => (List.not_mem_nil h).elim⟩ (fun i σ H6 _ h => by obtain ⟨_, _, _, _, _, _, _, _, _, M, _⟩ := h; exact SqL.of (at_off M.hN)) ?_ ?_
    · rintro i x σ H6 H7 hi ⟨v5, v6, v7, v8, xs, us, cs, ws, rfl, M, ok, lcs, lws, ch, wa⟩ ⟨rfl, gx⟩
      rw [List.getElem?_map] at gx
      obtain ⟨z, gz, rfl⟩ := Option.map_eq_some_iff.mp gx
      have hi2 : i < m := by have := (List.getElem?_eq_some_iff.mp gz).1; omega
      have nzz := nz z (List.mem_of_getElem? gz)
      refine ⟨_, rfl, (by show 3 ≤ sizeLine; decide), fun a1 na1 => ?_⟩
      have a1b := M.st.ne na1
      have M := M.put (o := .lst [.int 4, .int 12, .int 999]) na1
      have h1 : upd H7 a1 (.lst [.int 4, .int 12, .int 999]) a1 = some (.lst [.int 4, .int 12, .int 999]) := upd_same
      generalize upd H7 a1 (.lst [.int 4, .int 12, .int 999]) = H8 at M h1 ⊢
      refine ⟨_, rfl, b, 3, _, rfl, (by decide), (by decide), M.st, by omega, fun H9 r2 r20 r21 B9 s9 => ?_⟩
      have h1 := sm1_at s9 a1b h1
      have M := M.drawn ap B9 s9
      obtain ⟨e1, ee1, e10, e11⟩ : ∃ e1 : Int, atI [V.int 4, .int 12, .int 999] r2 = some (.int e1) ∧ 1 ≤ e1 ∧ e1 ≤ 999 := by
        have h : r2 = 0 ∨ r2 = 1 ∨ r2 = 2 := by omega
        rcases h with rfl | rfl | rfl
        · exact ⟨_, rfl, by decide, by decide⟩
        · exact ⟨_, rfl, by decide, by decide⟩
        · exact ⟨_, rfl, by decide, by decide⟩
      refine ⟨a1, _, r2, _, rfl, rfl, SqL.of h1, ee1, b, e1, _, rfl, (by omega), (by omega), M.st, by omega, fun H10 g g0 g1 B10 s10 => ⟨_, _, rfl, rfl, ?_⟩⟩
      have M := M.drawn ap B10 s10
      clear h1 ee1
      refine ⟨_, rfl, .inl ⟨rfl, _, SqL.of M.hC⟩, _, rfl, _, rfl, b, 3, _, rfl, (by decide), (by decide), M.st, by omega, fun H11 c1 c10 c11 B11 s11 => ⟨_, _, rfl, rfl, ?_⟩⟩
      have M := M.drawn ap B11 s11
      refine ⟨_, rfl, b, 5, _, rfl, (by decide), (by decide), M.st, by omega, fun H12 c2 c20 c21 B12 s12 => ?_⟩
      have M := M.drawn ap B12 s12
      refine ⟨_, rfl, (by show 4 ≤ sizeLine; decide), fun t nt => ?_⟩
      have ft := off_new (o := .tup [.str z, .int (1 + c1), .int c2, .int (1 + g)]) M.live nt
      have M := M.put (o := .tup [.str z, .int (1 + c1), .int c2, .int (1 + g)]) nt
      generalize upd H12 t (.tup [.str z, .int (1 + c1), .int c2, .int (1 + g)]) = H13 at M ft ⊢
      have hv : Dp K (off H13 [C, W, b]) (.ref t) (colD (z, 1 + c1, c2, 1 + g)) := .tup (.inl (.inl ft)) (.cons (.str _) (.cons (.int _) (.cons (.int _) (.cons (.int _) .nil))))
      have lxs : xs.length = i := by rw [dpAll_map_len M.dC]; exact lcs
      refine ⟨C, _, _, rfl, rfl, M.hC, (by rw [lxs]; exact Nat.lt_of_lt_of_le (show i < 12 by omega) (by decide)), ?_⟩
      have M := M.colour ap hv
      generalize upd H13 C (.lst (xs ++ [.ref t])) = H14 at M ⊢
      have ok : PalOk (cs ++ [((z, 1 + c1, c2, 1 + g) : Col)]) ws := ok.addC (c := (z, 1 + c1, c2, 1 + g)) (by omega) ⟨Nat.le_trans nzz.1.1 (by decide), wd_codes nzz.1, by show (1 + c1).natAbs < 10000; omega, by show c2.natAbs < 10000; omega, by show (1 + g).natAbs < 10000; omega⟩
      have ch2 : ∀ c ∈ cs ++ [((z, 1 + c1, c2, 1 + g) : Col)], (1 ≤ c.2.1 ∧ c.2.1 ≤ 3 ∧ 0 ≤ c.2.2.1 ∧ c.2.2.1 ≤ 4 ∧ 1 ≤ c.2.2.2 ∧ c.2.2.2 ≤ 999) ∧ Nm c.1 := fun x hx => by
        rcases List.mem_append.mp hx with h | h
        · exact ch x h
        · rw [List.mem_singleton.mp h]
          exact ⟨⟨by show 1 ≤ 1 + c1; omega, by show 1 + c1 ≤ 3; omega, c20, by show c2 ≤ 4; omega, by show 1 ≤ 1 + g; omega, by show 1 + g ≤ 999; omega⟩, nzz⟩
      have lc2 : (cs ++ [((z, 1 + c1, c2, 1 + g) : Col)]).length = i + 1 := by rw [List.length_append, lcs]; rfl
      generalize cs ++ [((z, 1 + c1, c2, 1 + g) : Col)] = cs at M ok ch2 lc2 ⊢
      generalize xs ++ [V.ref t] = xs at M ⊢
      have M := M.mono (show _ ≤ n + 25 + 22 * i by omega)
      refine ⟨_, rfl, N, rfl, ⟨_, SqL.of (at_off M.hN)⟩, ?_⟩
      refine for_it (walk_list (xs := zs.map V.str)) (fun j σ H6 => ∃ v7 v8 us ws, σ = [some (.ref b), some (.int 6), some (.ref N), some (.ref C), some (.ref W), some (.str z), some (.int (1 + g)), v7, v8] ∧ PMc K H b C W N zs (n + 25 + 22 * i + 3 * j) xs us cs ws H6 ∧ PalOk cs ws ∧ ws.length ≤ 6 * i + j ∧ ∀ r ∈ ws, (∀ i, r.2.2 = some i → 0 ≤ i ∧ i ≤ 3) ∧ Nm r.1 ∧ Nm r.2.1)
        ⟨_, _, us, ws, rfl, M, ok, lws, wa⟩ (fun j σ H6 _ h => by obtain ⟨_, _, _, _, _, M, _⟩ := h; exact SqL.of (at_off M.hN)) ?_ ?_
      · clear ok M wa lws
        rintro j x σ H15 H16 hj ⟨v7, v8, us, ws, rfl, M, ok, lws, wa⟩ ⟨rfl, gx⟩
        rw [List.getElem?_map] at gx
        obtain ⟨y, gy, rfl⟩ := Option.map_eq_some_iff.mp gx
        have hj2 : j < m := by have := (List.getElem?_eq_some_iff.mp gy).1; omega
        have nyy := nz y (List.mem_of_getElem? gy)
        refine ⟨_, rfl, _, rfl, rfl, _, rfl, ite2 (fun h1 => ?_) (fun h1 => ?_)⟩
        · refine ⟨_, rfl, b, 3, _, rfl, (by decide), (by decide), M.st, by omega, fun H17 r3 r30 r31 B17 s17 => ⟨rfl, _, rfl, ite2 (fun h2 => ?_) (fun h2 => ?_)⟩⟩
          · have M := M.drawn ap B17 s17
            refine ⟨_, rfl, b, 4, _, rfl, (by decide), (by decide), M.st, by omega, fun H18 r4 r40 r41 B18 s18 => ⟨rfl, ?_⟩⟩
            have M := M.drawn ap B18 s18
            generalize decide (V.int r4 = V.int 0) = kb
            have fin : ∀ (H19 : Hp) (o : Option Int), PMc K H b C W N zs (n + 25 + 22 * i + 3 * j + 3) xs us cs ws H19 → (∀ i, o = some i → 0 ≤ i ∧ i ≤ 3) → ∀ t, H19 t = none →
                (∃ v7 v8 us2 ws2, [some (V.ref b), some (.int 6), some (.ref N), some (.ref C), some (.ref W), some (.str z), some (.int (1 + g)), some (.str y), some (.bl kb)] = [some (V.ref b), some (.int 6), some (.ref N), some (.ref C), some (.ref W), some (.str z), some (.int (1 + g)), v7, v8] ∧
                  PMc K H b C W N zs (n + 25 + 22 * i + 3 * (j + 1)) xs us2 cs ws2 (upd (upd H19 t (.tup [.str z, .str y, optV o])) W (.lst (us ++ [.ref t]))) ∧ PalOk cs ws2 ∧ ws2.length ≤ 6 * i + (j + 1) ∧ ∀ r ∈ ws2, (∀ i, r.2.2 = some i → 0 ≤ i ∧ i ≤ 3) ∧ Nm r.1 ∧ Nm r.2.1) ∧ us.length < sizeLine ∧ upd H19 t (.tup [.str z, .str y, optV o]) W = some (.lst us) := by
              intro H19 o M ho t nt
              have ft := off_new (o := .tup [.str z, .str y, optV o]) M.live nt
              have M := M.put (o := .tup [.str z, .str y, optV o]) nt
              have hv : Dp K (off (upd H19 t (.tup [.str z, .str y, optV o])) [C, W, b]) (.ref t) (washD (z, y, o)) := .tup (.inl (.inl ft)) (.cons (.str _) (.cons (.str _) (.cons (opt_dp o) .nil)))
              have lus : us.length ≤ 60 := by rw [dpAll_map_len M.dW]; exact ok.nw
              refine ⟨⟨_, _, _, ws ++ [(z, y, o)], rfl, (M.wash ap hv).mono (by omega), ok.addW (r := (z, y, o)) (by omega) ⟨⟨Nat.le_trans nzz.1.1 (by decide), wd_codes nzz.1⟩, ⟨Nat.le_trans nyy.1.1 (by decide), wd_codes nyy.1⟩, fun i hi => by have := ho i hi; omega⟩, by rw [List.length_append]; show _ + 1 ≤ _; omega, fun r hr => ?_⟩, Nat.lt_of_le_of_lt lus (by decide), M.hW⟩
              rcases List.mem_append.mp hr with h | h
              · exact wa r h
              · rw [List.mem_singleton.mp h]; exact ⟨ho, nzz, nyy⟩
            refine ⟨_, rfl, .inl ⟨rfl, _, SqL.of M.hW⟩, _, rfl, _, rfl, _, rfl, kb, rfl, ?_⟩
            cases kb with
            | true =>
              refine iteT ⟨(by show 3 ≤ sizeLine; decide), fun t nt => ?_⟩
              obtain ⟨r1, r2, r3⟩ := fin _ none (M.mono (by omega)) (fun _ h => by cases h) t nt
              exact ⟨W, _, _, rfl, rfl, r3, r2, r1⟩
            | false =>
              refine iteF ⟨_, rfl, b, 4, _, rfl, (by decide), (by decide), M.st, by omega, fun H19 r5 r50 r51 B19 s19 => ⟨(by show 3 ≤ sizeLine; decide), fun t nt => ?_⟩⟩
              have M := M.drawn ap B19 s19
              obtain ⟨r1, r2, r3⟩ := fin _ (some r5) (M.mono (by omega)) (fun _ h => by cases h; omega) t nt
              exact ⟨W, _, _, rfl, rfl, r3, r2, r1⟩
          · have M := M.drawn ap B17 s17
            exact ⟨_, _, us, ws, rfl, M.mono (by omega), ok, by omega, wa⟩
        · exact ⟨_, _, us, ws, rfl, M.mono (by omega), ok, by omega, wa⟩
      · rintro σ H15 ⟨v7, v8, us, ws, rfl, M, ok, lws, wa⟩
        rw [List.length_map, lz] at M lws
        exact ⟨_, _, _, _, xs, us, cs, ws, rfl, M.mono (by omega), ok, lc2, by omega, ch2, wa⟩
    · rintro σ H6 ⟨v5, v6, v7, v8, xs, us, cs, ws, rfl, M, ok, lcs, lws, ch, wa⟩
      rw [List.length_map, lz] at M lcs lws
      have B := M.st
      refine ⟨_, rfl, C, _, rfl, .inl ⟨SqL.of M.hC, fun p np => ?_⟩⟩
      have fp := off_new (o := .tup xs) M.live np
      have M := M.put (o := .tup xs) np
      generalize upd H6 p (.tup xs) = H7 at fp M ⊢
      refine ⟨_, rfl, W, _, rfl, .inl ⟨SqL.of M.hW, fun p2 np2 => ?_⟩⟩
      have fp2 := off_new (o := .tup us) M.live np2
      have fp := sm_put (S := [C, W, b]) (o := .tup us) np2 _ _ fp
      have M := M.put (o := .tup us) np2
      generalize upd H7 p2 (.tup us) = H8 at fp fp2 M ⊢
      refine ⟨(by show 2 ≤ sizeLine; decide), fun p3 np3 => ?_⟩
      have fp3 := off_new (o := .tup [.ref p, .ref p2]) M.live np3
      have fp := sm_put (S := [C, W, b]) (o := .tup [.ref p, .ref p2]) np3 _ _ fp
      have fp2 := sm_put (S := [C, W, b]) (o := .tup [.ref p, .ref p2]) np3 _ _ fp2
      have M := M.put (o := .tup [.ref p, .ref p2]) np3
      generalize upd H8 p3 (.tup [.ref p, .ref p2]) = H9 at fp fp2 fp3 M ⊢
      have om : Same (off H9 [C, W, b]) (off H9 [b]) := off_mono (by simp)
      exact q _ _ cs ws (M.st.mono (by omega)) M.sm (dp_same om (.tup (.inl (.inl fp3)) (.cons (.tup (.inl (.inl fp)) M.dC) (.cons (.tup (.inl (.inl fp2)) M.dW) .nil)))) ⟨ok, by omega, by omega, fun c hc => (ch c hc).1, fun c hc => (ch c hc).2, wa⟩

end
end Pot

namespace Pot
open PySem PySem.Spec PyProof.Rows L2
section
variable {P : Program} {w : World} {K : PySem.W.Frag} {mg : Str → Option Value} {base : Heap}
/-! ### colour_row: the first colour so called -/
abbrev s_colour_row : Stmt := topS 3
def n_colour_row : List Str := ["palette", "colour", "row"]
theorem sc_colour_row : FnScope n_colour_row ["palette", "colour"] (defScope s_colour_row) := ⟨rfl, rfl, rfl, by decide +kernel, rfl, by decide +kernel, by decide +kernel⟩
def colF (cs : List Col) (z : Str) : Option Col := cs.find? fun c => decide (c.1 = z)
def spColour (K : PySem.W.Frag) : Sp := fun vs H Q _ => ∃ (v : V) (cs : List Col) (ws : List Wsh) (z : Str), vs = [v, .str z] ∧ Dp K H v (palD cs ws) ∧ (∃ c ∈ cs, c.1 = z) ∧
  ∀ (x : V) (c : Col), colF cs z = some c → Dp K H x (colD c) → Q x H
theorem ok_colour {f : Addr} {fd : FuncData} {k : Nat} (F : Fun K "colour_row" "colour_row" s_colour_row f fd) : FnOk P w K mg base CX0 (k + 1) f fd ["palette", "colour"] (spColour K) := by
  refine F.ok sc_colour_row (fun vs H Q E h => ?_) (fun cdv A outer s H vs Q E hr h => ?_)
  · obtain ⟨v, cs, ws, z, rfl, _⟩ := h
    rfl
  · obtain ⟨v, cs, ws, z, rfl, hp, hin, q⟩ := h
    have nd := sc_colour_row.nd
    obtain ⟨p, c, w2, xs, ys, rfl, hp, hc, hx, hw, hy⟩ := pal_dp hp
    refine ⟨_, (pss_cons (ps_for PassesOwn.never rfl (ki_tup (K := K) (pe_ix (kx_tup (K := K)) (pv 0) pe_int (fun _ _ => rfl))) (pg_name (i := 2) nd rfl (.inl rfl))
          (pss_one (ps_if (pt_cmpR op_eq (pe_ix (kx_tup (K := K)) (pv 2) pe_int (fun _ _ => rfl)) (pv 1) (nomark _))
              (pss_one (ps_ret (pv 2)))
              pss_nil)))
      (pss_one ps_never)), ?_⟩
    refine ⟨_, rfl, p, _, 0, .ref c, rfl, rfl, hp, rfl, c, rfl, ⟨_, hc⟩, ?_⟩
    refine for_it (walk_tup (xs := xs)) (fun i σ H2 => ∃ v2, σ = [some (.ref p), some (.str z), v2] ∧ H2 = H ∧ ∀ j d, j < i → cs[j]? = some d → d.1 ≠ z) ⟨none, rfl, rfl, fun j d hj => absurd hj (Nat.not_lt_zero _)⟩ (fun i σ H2 _ h => by obtain ⟨_, _, rfl, _⟩ := h; exact hc) ?_ ?_
    · rintro i x σ H2 H3 hi ⟨v2, rfl, rfl, old⟩ ⟨rfl, gx⟩
      obtain ⟨d, gd, dp⟩ := dpAll_map_at hx gx
      obtain ⟨r, rfl, hr2⟩ := col_dp dp
      refine ⟨_, rfl, r, _, 0, _, rfl, rfl, hr2, rfl, _, rfl, rfl, _, rfl, ?_⟩
      rw [decS]
      refine ite2 (fun hb => ?_) (fun hb => ?_)
      · refine ⟨_, rfl, q _ d ?_ dp⟩
        unfold colF
        obtain ⟨hl, e⟩ := List.getElem?_eq_some_iff.mp gd
        rw [List.find?_eq_some_iff_getElem]
        exact ⟨hb, i, hl, e, fun j hj => by
          have := old j _ hj (List.getElem?_eq_getElem (by omega))
          simp [this]⟩
      · refine ⟨_, rfl, rfl, fun j e hj ge => ?_⟩
        by_cases hji : j = i
        · subst hji
          rw [gd] at ge
          cases ge
          exact fun z => hb (decide_eq_true z)
        · exact old j e (by omega) ge
    · rintro σ H2 ⟨v2, rfl, rfl, old⟩
      obtain ⟨d, hd, e⟩ := hin
      obtain ⟨j, hj, rfl⟩ := List.mem_iff_getElem.mp hd
      exact old j _ (by rw [dpAll_map_len hx]; exact hj) (List.getElem?_eq_getElem hj) e

/-! ### the law's own washings -/
abbrev s__law_wash : Stmt := topS 14
def n__law_wash : List Str := ["_law_palette_here", "_law_ahead", "_law_behind", "_law_hours", "_law_row"]
theorem sc__law_wash : FnScope n__law_wash ["_law_palette_here", "_law_ahead", "_law_behind"] (defScope s__law_wash) := ⟨rfl, rfl, rfl, by decide +kernel, rfl, by decide +kernel, by decide +kernel⟩
def spLWash (K : PySem.W.Frag) : Sp := fun vs H Q _ => ∃ (v : V) (cs : List Col) (ws : List Wsh) (a : Option Str) (b : Str), vs = [v, namV a, .str b] ∧ Dp K H v (palD cs ws) ∧ PalOk cs ws ∧ (∀ z, a = some z → Nm z) ∧ Nm b ∧ ∀ H', Same H H' → Q (optV (washF ws a b)) H'
theorem ok_lwash {f : Addr} {fd : FuncData} {k : Nat} (F : Fun K "_law_wash" "_law_wash" s__law_wash f fd) : FnOk P w K mg base CX0 (k + 1) f fd ["_law_palette_here", "_law_ahead", "_law_behind"] (spLWash K) := by
  refine F.ok sc__law_wash (fun vs H Q E h => ?_) (fun cdv A outer s H vs Q E hr h => ?_)
  · obtain ⟨v, cs, ws, a, b, rfl, _⟩ := h
    rfl
  · obtain ⟨v, cs, ws, a, b, rfl, hp, ok, la, lb, q⟩ := h
    have nd := sc__law_wash.nd
    have hu64 := hr.units
    /- 0 _law_palette_here, 1 _law_ahead, 2 _law_behind, 3 _law_hours, 4 _law_row -/
    obtain ⟨p, c, w2, xs, ys, rfl, hp, hc, hx, hw, hy⟩ := pal_dp hp
    refine ⟨_, (pss_cons (ps_setLc (i := 3) (own := [("_law_row", 4)]) rfl nd rfl rfl (sw_true rfl rfl rfl (by decide +kernel)) (ki_tup (K := K) (pe_ix (kx_tup (K := K)) (pv 0) pe_int (fun _ _ => rfl))) (blkOk_by (N := n__law_wash) (sc := defScope s__law_wash) (by decide +kernel)) (fun _ _ _ _ _ => (pg_name (i := 4) nd rfl (.inl rfl))) (fun _ _ _ _ _ => (pts_one (pt_cmpR (ko_eq (K := K) hu64) (pe_slice (kl_tup (K := K)) (pv 4) po_none (po_some pe_int)) (pe_tup (pa_cons (pv 1) (pa_cons (pv 2) pa_nil))) (nomark _)))) (fun _ _ _ _ _ => (pe_ix (kx_tup (K := K)) (pv 4) pe_int (fun _ _ => rfl))))
      (pss_one (ps_ret (pe_ifExp (pt_cmpR (ko_ne (K := K) hu64) (pv 3) (pe_lst pa_nil) (nomark _)) (pe_ix (kx_list (K := K)) (pv 3) pe_int (fun _ _ => rfl)) pe_int)))), ?_⟩
    refine ⟨_, rfl, p, _, 1, .ref w2, rfl, rfl, hp, rfl, w2, rfl, ⟨_, hw⟩, fun D nD => ?_⟩
    have lws : ys.length = ws.length := dpAll_map_len hy
    refine lc_it (walk_tup (xs := ys)) (fun i H2 => Same H H2 ∧ H2 D = some (.lst (((ws.take i).filter (mat a b)).map fun r => optV r.2.2))) ⟨same_upd nD, upd_same⟩ (fun i H2 _ h => same_tup h.1 hw) ?_ ?_
    · rintro i x H2 H3 hi ⟨sm, hD⟩ ⟨rfl, gx⟩
      obtain ⟨r, gr, dp⟩ := dpAll_map_at hy gx
      obtain ⟨t, rfl, ht⟩ := wash_dp dp
      have rok := ok.wn r (List.mem_of_getElem? gr)
      have sg : ∀ {z : Str}, Nm z → ∀ x ∈ z.cps.toList, x < 1114112 := fun h x hx => Nat.lt_trans (h.ascii x hx) (by decide)
      have ht3 := same_tup sm ht
      have ec : cutV [V.str r.1, .str r.2.1, optV r.2.2] none (some 2) = [V.str r.1, .str r.2.1] := by rw [show (2 : Int) = ((2 : Nat) : Int) from rfl, cut_head]; rfl
      refine ⟨rfl, _, rfl, 2, rfl, t, _, rfl, ht3, (fun h => absurd h.2 (by rw [show (2 : Int) = ((2 : Nat) : Int) from rfl, HT.sIx_nat]; exact (by decide : ¬ min 2 3 = 3))), fun _ t1 n1 => ?_⟩
      rw [ec]
      refine ⟨_, rfl, _, rfl, (by show 2 ≤ sizeLine; decide), fun t2 n2 => ?_⟩
      have sm2 := same_upd (o := .tup [.str r.1, .str r.2.1]) n1
      have sm3 := same_upd (o := .tup [namV a, .str b]) n2
      have h1 : upd (upd H3 t1 (.tup [.str r.1, .str r.2.1])) t2 (.tup [namV a, .str b]) t1 = some (.tup [.str r.1, .str r.2.1]) := sm3 _ _ upd_same
      have h2 : upd (upd H3 t1 (.tup [.str r.1, .str r.2.1])) t2 (.tup [namV a, .str b]) t2 = some (.tup [namV a, .str b]) := upd_same
      have sm4 := sm.trans (sm2.trans sm3)
      have hD2 := sm3 _ _ (sm2 _ _ hD)
      generalize upd (upd H3 t1 (.tup [.str r.1, .str r.2.1])) t2 (.tup [namV a, .str b]) = H4 at h1 h2 sm4 hD2 ⊢
      refine ⟨.tuple [.str r.1, .str r.2.1], .tuple [namD a, .str b], .tup (.inl (.inl h1)) (.cons (.str _) (.cons (.str _) .nil)), .tup (.inl (.inl h2)) (.cons (nam_dp a) (.cons (.str _) .nil)), shaped_two rok.1.2 rok.2.1.2, shaped_nam (fun z e => sg (la z e)) (sg lb), _, rfl, ?_⟩
      rw [eqv_mat]
      rw [List.take_add_one, gr, Option.toList_some, List.filter_append]
      cases hm : mat a b r with
      | true =>
        rw [if_pos rfl]
        refine ⟨_, rfl, t, _, 2, _, rfl, rfl, same_tup sm4 ht, rfl, _, hD2, ?_, same_put sm4 nD, ?_⟩
        · rw [List.length_map]
          refine Nat.lt_of_le_of_lt (Nat.le_trans (List.length_filter_le ..) (List.length_take_le' ..)) ?_
          exact Nat.lt_of_le_of_lt ok.nw (by decide)
        · rw [upd_same]; simp [hm]
      | false =>
        rw [if_neg Bool.false_ne_true]
        refine ⟨sm4, ?_⟩
        rw [hD2]; simp [hm]
    · rintro H2 ⟨sm, hD⟩
      rw [lws, List.take_length] at hD
      refine ⟨_, rfl, Nat.zero_le _, fun e ne => ?_⟩
      have sm2 := same_upd (o := .lst []) ne
      have hD := sm2 _ _ hD
      have he : upd H2 e (.lst []) e = _ := upd_same
      have sm := sm.trans sm2
      generalize upd H2 e (.lst []) = H3 at sm hD he ⊢
      refine ⟨.list ((ws.filter (mat a b)).map fun r => optD r.2.2), .list [], .lst (SqL.of hD) (dpAll_opts _), .lst (SqL.of he) .nil, shaped_opts _, shaped_opts ([] : List Wsh), _, rfl, ?_⟩
      rw [washF_filter] at q
      cases ef : ws.filter (mat a b) with
      | nil =>
        rw [ef] at q
        show if (!PyData.eqv (.list []) (.list [])) = true then _ else _
        rw [if_neg (by intro z; cases z)]
        exact q _ sm
      | cons r l =>
        rw [ef] at q hD
        show if (!PyData.eqv (.list (optD r.2.2 :: l.map fun r => optD r.2.2)) (.list [])) = true then _ else _
        rw [if_pos (by rfl)]
        exact ⟨_, rfl, D, _, 0, _, rfl, rfl, SqL.of hD, atI_nat (j := 0) rfl, q _ sm⟩
/-! ### the law's own hours of a colour -/
def hrD (c : Col) : PyData := .tuple [.int c.2.1, .int c.2.2.1]
theorem colF_head {cs : List Col} {b : Str} {c : Col} (h : colF cs b = some c) : ∃ l, cs.filter (fun c => decide (c.1 = b)) = c :: l := by
  unfold colF at h
  rw [← List.head?_filter] at h
  cases e : cs.filter (fun c => decide (c.1 = b)) with
  | nil => rw [e] at h; cases h
  | cons x l => rw [e] at h; cases h; exact ⟨l, rfl⟩

end
end Pot

namespace Pot
open PySem PySem.Spec PyProof.Rows L2
/-! ### a list that is filled while there is drawn and counted -/
structure Cnt (kvs : List (Key × V)) (n : Nat) : Prop where
  v : ∀ k x, valV kvs k = some x → ∃ i : Int, x = .int i
  l : kvs.length ≤ n
structure Dst (K : PySem.W.Frag) (H0 : Hp) (b D R : Addr) (fs : List (V × PyData)) (n : Nat) (us : List V) (ds : List PyData) (kvs : List (Key × V)) (H : Hp) : Prop where
  st : Bp H b n
  sm : Sm [D, b] H0 H
  Rb : R ≠ b
  RD : R ≠ D
  Db : D ≠ b
  nR : H0 R = none
  fr : ∀ p ∈ fs, Dp K (off H [R, D, b]) p.1 p.2
  hR : H R = some (.lst us)
  dR : DpAll K (off H [R, D, b]) us ds
  hD : H D = some (.dK kvs)
section
variable {K : PySem.W.Frag} {H0 H H' : Hp} {b D R p : Addr} {fs : List (V × PyData)} {n m : Nat} {us : List V} {ds : List PyData} {kvs kvs' : List (Key × V)} {o : HO}
theorem sm_two' {S : List Addr} {x y : Addr} (h1 : x ∈ S) (h2 : y ∈ S) (s : Sm [x, y] H H') : Sm S H H' := sm_mono (fun z hz => by
  rcases List.mem_cons.mp hz with e | e
  · rw [e]; exact h1
  · rw [List.mem_singleton.mp e]; exact h2) s
theorem Dst.live (M : Dst K H0 b D R fs n us ds kvs H) : Live [R, D, b] H := ((Live.pw M.st).cons M.hD).cons M.hR
theorem Dst.drawn (M : Dst K H0 b D R fs n us ds kvs H) (st : Bp H' b m) (s : Sm [b] H H') : Dst K H0 b D R fs m us ds kvs H' :=
  have s2 : Sm [R, D, b] H H' := sm_one (by simp) s
  ⟨st, M.sm.trans (sm_one (by simp) s), M.Rb, M.RD, M.Db, M.nR, fun q hq => dp_same s2 (M.fr q hq), sm1_at s M.Rb M.hR, dpAll_same s2 M.dR, sm1_at s M.Db M.hD⟩
theorem Dst.same (M : Dst K H0 b D R fs n us ds kvs H) (s : Same H H') : Dst K H0 b D R fs n us ds kvs H' :=
  have s2 : Sm [R, D, b] H H' := sm_of s
  ⟨M.st.same s, M.sm.trans (sm_of s), M.Rb, M.RD, M.Db, M.nR, fun q hq => dp_same s2 (M.fr q hq), s _ _ M.hR, dpAll_same s2 M.dR, s _ _ M.hD⟩
theorem Dst.put (M : Dst K H0 b D R fs n us ds kvs H) (h : H p = none) : Dst K H0 b D R fs n us ds kvs (upd H p o) := M.same (same_upd h)
theorem Dst.mono (M : Dst K H0 b D R fs n us ds kvs H) (h : n ≤ m) : Dst K H0 b D R fs m us ds kvs H := ⟨M.st.mono h, M.sm, M.Rb, M.RD, M.Db, M.nR, M.fr, M.hR, M.dR, M.hD⟩
theorem Dst.app (M : Dst K H0 b D R fs n us ds kvs H) {v : V} {d : PyData} (hv : Dp K (off H [R, D, b]) v d) : Dst K H0 b D R fs n (us ++ [v]) (ds ++ [d]) kvs (upd H R (.lst (us ++ [v]))) :=
  have s2 : Sm [R, D, b] H (upd H R (.lst (us ++ [v]))) := sm_wr (by simp)
  ⟨M.st.wr M.Rb, smp M.sm M.nR, M.Rb, M.RD, M.Db, M.nR, fun q hq => dp_same s2 (M.fr q hq), upd_same, dpAll_same s2 (dpAll_app M.dR (.cons hv .nil)), by rw [upd_ne M.RD.symm]; exact M.hD⟩
theorem Dst.cnt (M : Dst K H0 b D R fs n us ds kvs H) : Dst K H0 b D R fs n us ds kvs' (upd H D (.dK kvs')) :=
  have s2 : Sm [R, D, b] H (upd H D (.dK kvs')) := sm_wr (by simp)
  ⟨M.st.wr M.Db, M.sm.trans (sm_wr (by simp)), M.Rb, M.RD, M.Db, M.nR, fun q hq => dp_same s2 (M.fr q hq), by rw [upd_ne M.RD]; exact M.hR, dpAll_same s2 M.dR, upd_same⟩
theorem Dst.start (B : Bp H b n) (hD : H D = some (.dK kvs)) (Db : D ≠ b) (s : Sm [D, b] H0 H) (h : H R = none) (fr : ∀ p ∈ fs, Dp K (off H [D, b]) p.1 p.2) : Dst K H0 b D R fs n [] [] kvs (upd H R (.lst [])) := by
  have RD : R ≠ D := (ne_of_none hD h).symm
  have nR : H0 R = none := by
    cases e : H0 R with
    | none => rfl
    | some o =>
      have := sm_at s (x := R) (by simp [RD, B.ne h]) e
      rw [this] at h; cases h
  refine ⟨B.put h, s.trans (sm_put h), B.ne h, RD, Db, nR, fun q hq => ?_, upd_same, .nil, by rw [upd_ne RD.symm]; exact hD⟩
  have e : off (upd H R (.lst [])) [R, D, b] = off H [D, b] := off_fresh h
  rw [e]; exact fr q hq
theorem Dst.new (M : Dst K H0 b D R fs n us ds kvs H) (h : H p = none) : off (upd H p o) [R, D, b] p = some o := off_new M.live h
theorem Dst.done (M : Dst K H0 b D R fs n us ds kvs H) : Dp K (off H [D, b]) (.ref R) (.list ds) :=
  .lst (SqL.of (by rw [off_out (by simp [M.Rb, M.RD])]; exact M.hR)) (dpAll_same (off_mono (by simp)) M.dR)
theorem Dst.kept (M : Dst K H0 b D R fs n us ds kvs H) {q : V × PyData} (h : q ∈ fs) : Dp K (off H [D, b]) q.1 q.2 := dp_same (off_mono (by simp)) (M.fr q h)
end
theorem Cnt.put {kvs : List (Key × V)} {n : Nat} (c : Cnt kvs n) (k : Key) (i : Int) : Cnt (putK kvs k (.int i)) (n + 1) := by
  refine ⟨fun k' x h => ?_, Nat.le_trans (length_putK kvs k _) (Nat.succ_le_succ c.l)⟩
  rw [valV_put] at h
  by_cases e : k' = k
  · rw [if_pos e] at h
    exact ⟨i, (Option.some.inj h).symm⟩
  · rw [if_neg e] at h
    exact c.v k' x h
theorem Cnt.get {kvs : List (Key × V)} {n : Nat} (c : Cnt kvs n) (k : Key) : ∃ i : Int, (valV kvs k).getD (.int 0) = .int i := by
  cases h : valV kvs k with
  | none => exact ⟨0, rfl⟩
  | some x => exact c.v k x h
theorem Cnt.nil : Cnt [] 0 := ⟨fun k x h => (by cases h), Nat.le_refl _⟩
theorem Cnt.mono {kvs : List (Key × V)} {n m : Nat} (c : Cnt kvs n) (h : n ≤ m) : Cnt kvs m := ⟨c.v, Nat.le_trans c.l h⟩

section
variable {P : Program} {w : World} {K : PySem.W.Frag} {mg : Str → Option Value} {base : Heap}
/-! ### the turns of a pot -/
abbrev Trn : Type := Int × Str × Int × Int
def trD (t : Trn) : PyData := .tuple [.int t.1, .str t.2.1, .int t.2.2.1, .int t.2.2.2]
structure TrOk (cs : List Col) (t : Trn) : Prop where
  a : 0 ≤ t.1 ∧ t.1 < t.2.2.1
  b : t.2.2.1 < t.2.2.2 ∧ t.2.2.2 ≤ 60
  c : ∃ c ∈ cs, c.1 = t.2.1
theorem washF_ok {ws : List Wsh} {a : Option Str} {b : Str} {i : Int} (h : ∀ r ∈ ws, ∀ i, r.2.2 = some i → 0 ≤ i ∧ i ≤ 3) (e : washF ws a b = some i) : 0 ≤ i ∧ i ≤ 3 := by
  induction ws with
  | nil => cases e; decide
  | cons r ws ih =>
    replace e : (if some r.1 = a ∧ r.2.1 = b then r.2.2 else washF ws a b) = some i := e
    by_cases c : some r.1 = a ∧ r.2.1 = b
    · rw [if_pos c] at e
      exact h r List.mem_cons_self i e
    · rw [if_neg c] at e
      exact ih (fun r hr => h r (List.mem_cons_of_mem _ hr)) e
abbrev s__law_pot : Stmt := topS 15
def n__law_pot : List Str := ["_law_box_here", "_law_palette_here", "_law_counts", "_law_found", "_law_free", "_law_last", "_law_turn", "_law_colour", "_law_charge", "_law_melt", "_law_gathers", "_law_wash_here", "_law_late", "_law_begin", "_law_end"]
theorem sc__law_pot : FnScope n__law_pot ["_law_box_here", "_law_palette_here", "_law_counts"] (defScope s__law_pot) := ⟨rfl, rfl, rfl, by decide +kernel, rfl, by decide +kernel, by decide +kernel⟩
def spPot (K : PySem.W.Frag) : Sp := fun vs H Q _ => ∃ (b D : Addr) (v : V) (cs : List Col) (ws : List Wsh) (n m : Nat) (kvs : List (Key × V)), vs = [.ref b, v, .ref D] ∧ Bp H b n ∧ n < 2 ^ 38 ∧ D ≠ b ∧ H D = some (.dK kvs) ∧ Cnt kvs m ∧ m < 10000 ∧ Dp K (off H [D, b]) v (palD cs ws) ∧ PalE cs ws ∧
  ∀ (H' : Hp) (L : Addr) (ts : List Trn) (kvs' : List (Key × V)), Bp H' b (n + 60) → Sm [D, b] H H' → H L = none → Dp K (off H' [D, b]) (.ref L) (.list (ts.map trD)) → ts.length ≤ 9 → (∀ t ∈ ts, TrOk cs t) → H' D = some (.dK kvs') → Cnt kvs' (m + 9) → Q (.ref L) H'
theorem ok_pot {f : Addr} {fd : FuncData} {k : Nat} (F : Fun K "_law_pot" "_law_pot" s__law_pot f fd) (T : Txt mg) (c__law_take : Cl P w K mg base (k + 1) "_law_take" spTake) (c__law_wash : Cl P w K mg base (k + 1) "_law_wash" (spLWash K)) : FnOk P w K mg base CX0 (k + 2) f fd ["_law_box_here", "_law_palette_here", "_law_counts"] (spPot K) := by
  refine F.ok sc__law_pot (fun vs H Q E h => ?_) (fun cdv A outer s H vs Q E hr h => ?_)
  · obtain ⟨b, D, v, cs, ws, n, m, kvs, rfl, _⟩ := h
    rfl
  · obtain ⟨b, D, v, cs, ws, n, m, kvs, rfl, B, hn, Db, hD, cnt, hm, dv, pal, q⟩ := h
    have nd := sc__law_pot.nd
    have hu : (A.deeper (envOfC (Str.ofString "_law_pot") (defScope s__law_pot) s.heap.objs.size f cdv)).units + 1 < cLine := by have := hr.units; omega
    /- 0 _law_box_here, 1 _law_palette_here, 2 _law_counts, 3 _law_found, 4 _law_free, 5 _law_last, 6 _law_turn, 7 _law_colour, 8 _law_charge, 9 _law_melt, 10 _law_gathers, 11 _law_wash_here, 12 _law_late, 13 _law_begin, 14 _law_end -/
    refine ⟨_, (pss_cons (ps_par3 (i := 3) (j := 4) (l := 5) rfl nd rfl rfl rfl (by decide) (by decide) (by decide) rfl rfl rfl (pa_cons (pe_lst pa_nil) (pa_cons (pe_cl c__law_take hr (by omega) (by rfl) (pa_cons (pv 0) (pa_cons pe_int pa_nil))) (pa_cons pe_non pa_nil))) rfl)
      (pss_cons (ps_for PassesOwn.never rfl (pi_range1 (by rfl) T.range (pa_cons pe_int pa_nil)) (pg_name (i := 6) nd rfl (.inl rfl))
          (pss_cons (ps_asg (pe_ix (kx_tup (K := K)) (pe_ix (kx_tup (K := K)) (pv 1) pe_int (fun _ _ => rfl)) (pe_cl c__law_take hr (by omega) (by rfl) (pa_cons (pv 0) (pa_cons (pe_callB (kc_len (K := K)) (by rfl) T.len PySem.boot_len (pa_cons (pe_ix (kx_tup (K := K)) (pv 1) pe_int (fun _ _ => rfl)) pa_nil)) pa_nil))) (fun _ _ => rfl)) (kg_tup (K := K) (n := 4) (pgs_cons (pg_name (i := 7) nd rfl (.inl rfl)) (pgs_cons (pg_name (i := 8) nd rfl (.inl rfl)) (pgs_cons (pg_name (i := 9) nd rfl (.inl rfl)) (pgs_cons (pg_name (i := 10) nd rfl (.inl rfl)) pgs_nil))))))
          (pss_cons (ps_par (i := 11) (j := 12) rfl nd rfl rfl (by decide) rfl rfl (pa_cons (pe_cl c__law_wash hr (by omega) (by rfl) (pa_cons (pv 1) (pa_cons (pv 5) (pa_cons (pv 7) pa_nil)))) (pa_cons (pe_cl c__law_take hr (by omega) (by rfl) (pa_cons (pv 0) (pa_cons pe_int pa_nil))) pa_nil)) rfl)
          (pss_one (ps_if ((pw_and (pt_cmpR op_notN (pv 11) pe_non (nomark _)) (pw_and1 (pt_cmpR op_lt (pe_dget2 hu (pv 2) (pv 7) pe_int ⟨rfl, rfl, rfl, rfl⟩) pe_int (nomark _))))).pt
              (pss_cons (ps_set (i := 13) nd rfl (.inl rfl) (pe_op op_add (pe_op op_add (pe_op op_add (pe_op op_add (pv 4) (pv 11)) (pv 8)) (pv 9)) (pv 12)))
              (pss_cons (ps_set (i := 14) nd rfl (.inl rfl) (pe_op op_add (pe_op op_add (pv 13) pe_int) (pe_cl c__law_take hr (by omega) (by rfl) (pa_cons (pv 0) (pa_cons (pe_ix (kx_list (K := K)) (pe_lst (pa_cons pe_int (pa_cons pe_int pa_nil))) (pe_cl c__law_take hr (by omega) (by rfl) (pa_cons (pv 0) (pa_cons pe_int pa_nil))) (fun _ _ => rfl)) pa_nil)))))
              (pss_one (ps_if (pt_cmpR op_le (pv 14) pe_int (nomark _))
                  (pss_cons (ps_expr (pe_bm PySem.F.plainAttrs_list PySem.F.slot_list_append PySem.F.type_list_append mt_append (pv 3) (pa_cons (pe_tup (pa_cons (pe_op op_add (pv 4) (pv 11)) (pa_cons (pv 7) (pa_cons (pv 13) (pa_cons (pv 14) pa_nil))))) pa_nil)))
                  (pss_cons (ps_dput hu (pv 2) (pv 7) (pe_op op_add (pe_dget2 hu (pv 2) (pv 7) pe_int ⟨rfl, rfl, rfl, rfl⟩) pe_int) rfl)
                  (pss_one (ps_par (i := 4) (j := 5) rfl nd rfl rfl (by decide) rfl rfl (pa_cons (pe_op op_add (pv 14) (pe_cl c__law_take hr (by omega) (by rfl) (pa_cons (pv 0) (pa_cons pe_int pa_nil)))) (pa_cons (pv 7) pa_nil)) rfl))))
                  pss_nil))))
              pss_nil)))))
      (pss_one (ps_ret (pv 3))))), ?_⟩
    refine ⟨Nat.zero_le _, fun R nR => ?_⟩
    have M := Dst.start (R := R) (fs := [(v, palD cs ws)]) B hD Db (Same.refl _) nR (fun p hp => by rw [List.mem_singleton.mp hp]; exact dv)
    generalize upd H R (.lst []) = H1 at M ⊢
    refine ⟨_, rfl, b, 8, _, rfl, (by decide), (by decide), M.st, by omega, fun H2 f0 f00 f01 B2 s2 => ⟨_, _, _, rfl, ?_⟩⟩
    have M := M.drawn B2 s2
    refine ⟨9, rfl, (by decide), (by decide), ?_⟩
    refine for_it walk_range (fun i σ Hx => ∃ (fr : Int) (la : Option Str) (v6 v7 v8 v9 v10 v11 v12 v13 v14 : Option V) (us : List V) (ts : List Trn) (kvs' : List (Key × V)), σ = [some (.ref b), some v, some (.ref D), some (.ref R), some (.int fr), some (namV la), v6, v7, v8, v9, v10, v11, v12, v13, v14] ∧ Dst K H b D R [(v, palD cs ws)] (n + 1 + 6 * i) us (ts.map trD) kvs' Hx ∧ ts.length ≤ i ∧ (∀ t ∈ ts, TrOk cs t) ∧ Cnt kvs' (m + i) ∧ 0 ≤ fr ∧ fr ≤ 100 ∧ ∀ z, la = some z → Nm z)
      ⟨f0, none, _, _, _, _, _, _, _, _, _, [], [], kvs, rfl, M, Nat.le_refl _, (fun _ h => (List.not_mem_nil h).elim), cnt, f00, by omega, fun _ h => by cases h⟩ (fun _ _ _ _ _ => trivial) ?_ ?_
    · clear M
      rintro i x σ H3 H4 hi ⟨fr, la, v6, v7, v8, v9, v10, v11, v12, v13, v14, us, ts, kvs', rfl, M, lts, tok, cnt, fr0, fr1, hla⟩ ⟨rfl, rfl⟩
      have hi9 : i < 9 := hi
      obtain ⟨p, ca, wa, xs, ys, ev, hp, hc, hx, hw, hy⟩ := pal_dp (M.fr (v, palD cs ws) (by simp))
      replace ev : v = .ref p := ev
      have lx : xs.length = cs.length := dpAll_map_len hx
      have lne := pal.ne
      have lle := pal.le
      rw [ev]
      refine ⟨_, rfl, p, _, 0, .ref ca, rfl, rfl, sqt_off hp, rfl, _, rfl, _, rfl, p, _, 0, .ref ca, rfl, rfl, sqt_off hp, rfl, _, _, rfl, .inr ⟨_, sqt_off hc, rfl⟩, b, _, _, rfl, (by omega), (by omega), M.st, by omega, fun H5 r r0 r1 B5 s5 => ?_⟩
      have s5' : Sm [R, D, b] H4 H5 := sm_one (by simp) s5
      have M := M.drawn B5 s5
      obtain ⟨j, rfl⟩ : ∃ j : Nat, r = (j : Int) := ⟨r.toNat, by omega⟩
      have hj : j < xs.length := by omega
      obtain ⟨c, gc, dpc⟩ := dpAll_map_at hx (List.getElem?_eq_getElem hj)
      obtain ⟨rr, er, hrr⟩ := col_dp (dp_same s5' dpc)
      have hcm := List.mem_of_getElem? gc
      obtain ⟨h1, h2, h3, h4, _, _⟩ := pal.ch c hcm
      have hnm := pal.wd c hcm
      refine ⟨ca, _, j, _, rfl, rfl, sqt_off (same_tup s5' hc), atI_nat (List.getElem?_eq_getElem hj), ?_⟩
      rw [er]
      refine ⟨rr, _, rfl, sqt_off hrr, rfl, _, _, rfl, _, _, rfl, _, _, rfl, _, _, rfl, rfl, ?_⟩
      refine ⟨_, rfl, _, rfl, _, rfl, .ref p, cs, ws, la, c.1, rfl, (by rw [← ev]; exact dp_off (M.fr (v, palD cs ws) (by simp))), pal.ok, hla, hnm, fun H6 s6 => ?_⟩
      have M := M.same s6
      refine ⟨_, rfl, b, 3, _, rfl, (by decide), (by decide), M.st, by omega, fun H7 lt l0 l1 B7 s7 => ⟨_, _, rfl, ?_⟩⟩
      have M := M.drawn B7 s7
      clear hp hc hx hw hy dpc hrr er s5 s6 s7
      rw [← ev]
      have skip : ∀ (v13 v14 : Option V) (ow : Option V), ∃ (fr' : Int) (la' : Option Str) (v6 v7 v8 v9 v10 v11' v12 v13' v14' : Option V) (us : List V) (ts : List Trn) (kvs' : List (Key × V)), [some (.ref b), some v, some (.ref D), some (.ref R), some (.int fr), some (namV la), some (.int (0 + (i : Int))), some (.str c.1), some (.int c.2.1), some (.int c.2.2.1), some (.int c.2.2.2), ow, some (.int lt), v13, v14] = [some (.ref b), some v, some (.ref D), some (.ref R), some (.int fr'), some (namV la'), v6, v7, v8, v9, v10, v11', v12, v13', v14'] ∧ Dst K H b D R [(v, palD cs ws)] (n + 1 + 6 * (i + 1)) us (ts.map trD) kvs' H7 ∧ ts.length ≤ i + 1 ∧ (∀ t ∈ ts, TrOk cs t) ∧ Cnt kvs' (m + (i + 1)) ∧ 0 ≤ fr' ∧ fr' ≤ 100 ∧ ∀ z, la' = some z → Nm z :=
        fun v13 v14 ow => ⟨fr, la, _, _, _, _, _, _, _, _, _, us, ts, kvs', rfl, M.mono (by omega), by omega, tok, cnt.mono (by omega), fr0, fr1, hla⟩
      refine ⟨_, rfl, rfl, _, rfl, ite2 (fun hn1 => ?_) (fun hn1 => ?_)⟩
      · obtain ⟨wi, ewi⟩ : ∃ wi, washF ws la c.1 = some wi := by
          cases hwf : washF ws la c.1 with
          | none => rw [hwf] at hn1; cases hn1
          | some wi => exact ⟨wi, rfl⟩
        have hwi := washF_ok (fun r hr => (pal.wa r hr).1) ewi
        have eov : optV (washF ws la c.1) = .int wi := by rw [ewi]; rfl
        rw [eov]
        obtain ⟨ci, eci⟩ := cnt.get (Sum.inr c.1)
        refine ⟨_, rfl, D, rfl, .inl ⟨_, .inl M.hD⟩, _, rfl, _, DGet.k (k := Sum.inr c.1) M.hD, ?_⟩
        rw [eci]
        refine ⟨_, _, rfl, rfl, _, rfl, ite2 (fun hn2 => ?_) (fun hn2 => ?_)⟩
        · refine ⟨_, rfl, _, rfl, _, _, rfl, rfl, _, rfl, _, _, rfl, rfl, _, rfl, _, _, rfl, rfl, _, rfl, _, _, rfl, rfl, ?_⟩
          refine ⟨_, rfl, _, _, rfl, rfl, _, rfl, (by show 2 ≤ sizeLine; decide), fun a1 na1 => ?_⟩
          have a1b := M.st.ne na1
          have M := M.put (o := .lst [.int 3, .int 12]) na1
          have g1 : upd H7 a1 (.lst [.int 3, .int 12]) a1 = some (.lst [.int 3, .int 12]) := upd_same
          generalize upd H7 a1 (.lst [.int 3, .int 12]) = H8 at M g1 ⊢
          refine ⟨_, rfl, b, 2, _, rfl, (by decide), (by decide), M.st, by omega, fun H9 r2 r20 r21 B9 s9 => ?_⟩
          have g1 := sm1_at s9 a1b g1
          have M := M.drawn B9 s9
          obtain ⟨e1, ee1, e10, e11⟩ : ∃ e1 : Int, atI [V.int 3, .int 12] r2 = some (.int e1) ∧ 1 ≤ e1 ∧ e1 ≤ 12 := by
            have h : r2 = 0 ∨ r2 = 1 := by omega
            rcases h with rfl | rfl
            · exact ⟨_, rfl, by decide, by decide⟩
            · exact ⟨_, rfl, by decide, by decide⟩
          refine ⟨a1, _, r2, _, rfl, rfl, SqL.of g1, ee1, b, e1, _, rfl, (by omega), (by omega), M.st, by omega, fun H10 g g0 g10 B10 s10 => ⟨_, _, rfl, rfl, ?_⟩⟩
          have M := M.drawn B10 s10
          obtain ⟨bg, ebg⟩ : ∃ bg, bg = fr + wi + c.2.1 + c.2.2.1 + lt := ⟨_, rfl⟩
          obtain ⟨en, een⟩ : ∃ en, en = bg + 1 + g := ⟨_, rfl⟩
          simp only []
          rw [← ebg, ← een]
          refine ⟨_, rfl, _, _, rfl, rfl, _, rfl, ite2 (fun hn3 => ?_) (fun hn3 => ?_)⟩
          · have hn3 := of_decide_eq_true hn3
            refine ⟨_, rfl, .inl ⟨rfl, _, SqL.of M.hR⟩, _, rfl, _, rfl, _, _, rfl, rfl, _, rfl, _, rfl, _, rfl, (by show 4 ≤ sizeLine; decide), fun t nt => ?_⟩
            have ft := M.new (o := .tup [.int (fr + wi), .str c.1, .int bg, .int en]) nt
            have M := M.put (o := .tup [.int (fr + wi), .str c.1, .int bg, .int en]) nt
            generalize upd H10 t (.tup [.int (fr + wi), .str c.1, .int bg, .int en]) = H11 at M ft ⊢
            have hv : Dp K (off H11 [R, D, b]) (.ref t) (trD (fr + wi, c.1, bg, en)) := .tup (.inl (.inl ft)) (.cons (.int _) (.cons (.str _) (.cons (.int _) (.cons (.int _) .nil))))
            have lus : us.length ≤ 9 := by rw [dpAll_map_len M.dR]; omega
            refine ⟨R, _, _, rfl, rfl, M.hR, Nat.lt_of_le_of_lt lus (by decide), ?_⟩
            have M := M.app hv
            generalize upd H11 R (.lst (us ++ [.ref t])) = H12 at M ⊢
            refine ⟨_, rfl, D, rfl, .inl ⟨_, .inl M.hD⟩, _, rfl, _, DGet.k (k := Sum.inr c.1) M.hD, ?_⟩
            rw [eci]
            refine ⟨_, _, rfl, rfl, _, rfl, _, rfl, D, _, rfl, DPut.k (k := Sum.inr c.1) M.hD (Nat.lt_of_le_of_lt cnt.l (by rw [sizeLine_eq]; omega)), ?_⟩
            have M := M.cnt (kvs' := putK kvs' (Sum.inr c.1) (.int (ci + 1)))
            generalize upd H12 D (.dK (putK kvs' (Sum.inr c.1) (.int (ci + 1)))) = H13 at M ⊢
            refine ⟨_, rfl, _, rfl, b, 3, _, rfl, (by decide), (by decide), M.st, by omega, fun H14 g2 g20 g21 B14 s14 => ⟨_, _, rfl, rfl, _, rfl, _, _, rfl, ?_⟩⟩
            have M := M.drawn B14 s14
            refine ⟨_, some c.1, _, _, _, _, _, _, _, _, _, _, ts ++ [(fr + wi, c.1, bg, en)], _, rfl, (by rw [List.map_append]; exact M.mono (by omega)), by rw [List.length_append]; show _ + 1 ≤ _; omega, fun x hx => ?_, cnt.put _ _, by omega, by omega, fun z hz => by cases hz; exact hnm⟩
            rcases List.mem_append.mp hx with h | h
            · exact tok x h
            · rw [List.mem_singleton.mp h]
              exact ⟨⟨by show 0 ≤ fr + wi; omega, by show fr + wi < bg; omega⟩, ⟨by show bg < en; omega, hn3⟩, c, hcm, rfl⟩
          · exact ⟨fr, la, _, _, _, _, _, _, _, _, _, us, ts, kvs', rfl, M.mono (by omega), by omega, tok, cnt.mono (by omega), fr0, fr1, hla⟩
        · exact skip _ _ _
      · exact skip _ _ _
    · rintro σ H3 ⟨fr, la, v6, v7, v8, v9, v10, v11, v12, v13, v14, us, ts, kvs', rfl, M, lts, tok, cnt, fr0, fr1, hla⟩
      exact ⟨_, rfl, q _ R ts kvs' (M.st.mono (by omega)) M.sm M.nR M.done lts tok M.hD cnt⟩

end
end Pot

namespace Pot
open PySem PySem.Spec PyProof.Rows L2
section
variable {P : Program} {w : World} {K : PySem.W.Frag} {mg : Str → Option Value} {base : Heap}
theorem go_offX {H : Hp} {S : List Addr} {R : Addr} {us : List V} (h : H R = some (.lst us)) (a : Addr) (zs : List V) (k : SqT K (off H S) a zs) : SqT K (off H (R :: S)) a zs := by
  have go : ∀ o, (off H S a = some (.tup zs) ∨ off H S a = some (.frz o (.tup zs))) → a ∉ R :: S := fun o e z => by
    rcases List.mem_cons.mp z with z | z
    · subst z
      rcases e with e | e
      · have := off_sub (S := S) _ _ e; rw [h] at this; cases this
      · have := off_sub (S := S) _ _ e; rw [h] at this; cases this
    · rcases e with e | e
      · exact off_mem e z
      · exact off_mem e z
  rcases k with (k | ⟨o, k⟩) | k
  · exact .inl (.inl (by rw [off_out (go ⟨.none, none, .fields #[], #[]⟩ (.inl k))]; exact off_sub _ _ k))
  · exact .inl (.inr ⟨o, by rw [off_out (go o (.inr k))]; exact off_sub _ _ k⟩)
  · exact .inr k
theorem seq_offX {H : Hp} {S : List Addr} {R a : Addr} {zs : List V} (n : a ≠ R) (k : SqL K (off H S) a zs) : SqL K (off H (R :: S)) a zs := by
  have go : ∀ o, off H S a = some o → off H (R :: S) a = some o := fun o e => by
    have h := off_mem e
    rw [off_out (by simp [n, h])]
    exact off_sub _ _ e
  rcases k with (k | ⟨o, k⟩) | k
  · exact .inl (.inl (go _ k))
  · exact .inl (.inr ⟨o, go _ k⟩)
  · exact .inr k
theorem dp_offX {H : Hp} {S : List Addr} {R : Addr} {us : List V} (h : H R = some (.lst us)) {v : V} {e : PyData} (n : noLAll.noL e) (p : Dp K (off H S) v e) : Dp K (off H (R :: S)) v e := dp_go (go_offX h) n p
theorem lst_offX {H : Hp} {S : List Addr} {R a : Addr} {us : List V} (h : H R = some (.lst us)) (ne : a ≠ R) {es : List PyData} (n : noLAll es) (p : Dp K (off H S) (.ref a) (.list es)) : Dp K (off H (R :: S)) (.ref a) (.list es) := by
  cases p with
  | lst hs ha => exact .lst (seq_offX ne hs) (dpAll_go (go_offX h) n ha)
theorem noL_trs (ts : List Trn) : noLAll (ts.map trD) := noL_map (f := trD) (fun t => (⟨trivial, trivial, trivial, trivial, trivial⟩ : noLAll.noL (trD t))) ts
theorem Dst.called {H0 H H' : Hp} {b D R : Addr} {fs : List (V × PyData)} {n m : Nat} {us : List V} {ds : List PyData} {kvs kvs' : List (Key × V)} (M : Dst K H0 b D R fs n us ds kvs H) (st : Bp H' b m) (s : Sm [D, b] H H') (hD : H' D = some (.dK kvs')) : Dst K H0 b D R fs m us ds kvs' H' :=
  have s2 : Sm [R, D, b] H H' := sm_two' (by simp) (by simp) s
  ⟨st, M.sm.trans s, M.Rb, M.RD, M.Db, M.nR, fun q hq => dp_same s2 (M.fr q hq), sm_at s (by simp [M.Rb, M.RD]) M.hR, dpAll_same s2 M.dR, hD⟩
def potD (ts : List Trn) : PyData := .list (ts.map trD)
def potsD (ps : List (List Trn)) : PyData := .list (ps.map potD)
structure PotsOk (cs : List Col) (ps : List (List Trn)) : Prop where
  l : ps.length ≤ 8
  e : ∀ p ∈ ps, p.length ≤ 9 ∧ ∀ t ∈ p, TrOk cs t
abbrev s__law_pots : Stmt := topS 16
def n__law_pots : List Str := ["_law_box_here", "_law_palette_here", "_law_most", "_law_counts", "_law_k"]
theorem sc__law_pots : FnScope n__law_pots ["_law_box_here", "_law_palette_here", "_law_most"] (defScope s__law_pots) := ⟨rfl, rfl, rfl, by decide +kernel, rfl, by decide +kernel, by decide +kernel⟩
def spPots (K : PySem.W.Frag) : Sp := fun vs H Q _ => ∃ (b : Addr) (v : V) (cs : List Col) (ws : List Wsh) (n : Nat), vs = [.ref b, v, .int 8] ∧ Bp H b n ∧ n < 2 ^ 37 ∧ Dp K (off H [b]) v (palD cs ws) ∧ PalE cs ws ∧
  ∀ (H' : Hp) (L : Addr) (ps : List (List Trn)), Bp H' b (n + 600) → Sm [b] H H' → Dp K (off H' [b]) (.ref L) (potsD ps) → PotsOk cs ps → Q (.ref L) H'
theorem ok_pots {f : Addr} {fd : FuncData} {k : Nat} (F : Fun K "_law_pots" "_law_pots" s__law_pots f fd) (T : Txt mg) (c__law_take : Cl P w K mg base (k + 1) "_law_take" spTake) (c__law_pot : Cl P w K mg base (k + 2) "_law_pot" (spPot K)) : FnOk P w K mg base CX0 (k + 3) f fd ["_law_box_here", "_law_palette_here", "_law_most"] (spPots K) := by
  refine F.ok sc__law_pots (fun vs H Q E h => ?_) (fun cdv A outer s H vs Q E hr h => ?_)
  · obtain ⟨b, v, cs, ws, n, rfl, _⟩ := h
    rfl
  · obtain ⟨b, v, cs, ws, n, rfl, B, hn, dv, pal, q⟩ := h
    have nd := sc__law_pots.nd
    /- 0 _law_box_here, 1 _law_palette_here, 2 _law_most, 3 _law_counts, 4 _law_k -/
    refine ⟨_, (pss_cons (ps_set (i := 3) nd rfl (.inr rfl) pe_dnewK)
      (pss_one (ps_ret (pe_lc (own := [("_law_k", 4)]) rfl nd (pi_range1 (by rfl) T.range (pa_cons (pe_cl c__law_take hr (by omega) (by rfl) (pa_cons (pv 0) (pa_cons (pe_op op_add (pv 2) pe_int) pa_nil))) pa_nil)) (blkOk_by (N := n__law_pots) (sc := defScope s__law_pots) (by decide +kernel)) (fun _ _ _ _ _ => (pg_name (i := 4) nd rfl (.inl rfl))) (fun _ _ _ _ _ => pts_nil) (fun _ _ _ _ _ => (pe_cl c__law_pot hr (by omega) (by rfl) (pa_cons (pv 0) (pa_cons (pv 1) (pa_cons (pv 3) pa_nil))))))))), ?_⟩
    refine fun D nD => ?_
    have Db := B.ne nD
    have eoff : off (upd H D (.dK [])) [D, b] = off H [b] := off_fresh nD
    have dv1 : Dp K (off (upd H D (.dK [])) [D, b]) v (palD cs ws) := by rw [eoff]; exact dv
    have B1 := B.put (o := .dK []) nD
    have hD : upd H D (.dK []) D = some (.dK []) := upd_same
    have sc : Sm [b] H (upd H D (.dK [])) := sm_put nD
    generalize upd H D (.dK []) = H1 at dv1 B1 hD sc ⊢
    refine ⟨_, rfl, _, rfl, _, _, rfl, rfl, b, _, _, rfl, (by decide), (by decide), B1, by omega, fun H2 r r0 r1 B2 s2 => ?_⟩
    have hD := sm1_at s2 Db hD
    have sc := sc.trans s2
    have dv2 := dp_same (sm_one (S := [D, b]) (by simp) s2) dv1
    refine ⟨_, rfl, (by omega), (by omega), fun R nR => ?_⟩
    have nR0 : H R = none := sm_free sc B2.bx nR
    have M := Dst.start (R := R) (fs := [(v, palD cs ws)]) B2 hD Db (Same.refl _) nR (fun p hp => by rw [List.mem_singleton.mp hp]; exact dv2)
    refine lc_it walk_range (fun i Hx => ∃ (us : List V) (ps : List (List Trn)) (kvs : List (Key × V)), Dst K H2 b D R [(v, palD cs ws)] (n + 1 + 60 * i) us (ps.map potD) kvs Hx ∧ ps.length = i ∧ (∀ p ∈ ps, p.length ≤ 9 ∧ ∀ t ∈ p, TrOk cs t) ∧ Cnt kvs (9 * i)) ⟨[], [], [], M, rfl, (fun _ h => (List.not_mem_nil h).elim), Cnt.nil⟩ (fun _ _ _ _ => trivial) ?_ ?_
    · clear M
      rintro i x H3 H4 hi ⟨us, ps, kvs, M, lps, ok, cnt⟩ ⟨rfl, rfl⟩
      have hi8 : i < 8 := by omega
      refine ⟨rfl, tYes_at ?_⟩
      rw [if_pos rfl]
      refine ⟨_, rfl, _, rfl, _, rfl, b, D, v, cs, ws, _, _, kvs, rfl, M.st, by omega, Db, M.hD, cnt, by omega, M.kept (q := (v, palD cs ws)) (by simp), pal, fun H5 L ts kvs' B5 s5 nL dL lts tok hD5 cnt5 => ?_⟩
      have LR : L ≠ R := (ne_of_none M.hR nL).symm
      have M := M.called B5 s5 hD5
      have dL2 : Dp K (off H5 [R, D, b]) (.ref L) (potD ts) := lst_offX M.hR LR (noL_trs ts) dL
      have lus : us.length = i := by rw [dpAll_map_len M.dR]; exact lps
      refine ⟨us, M.hR, (by rw [lus, sizeLine_eq]; omega), us ++ [.ref L], ps ++ [ts], kvs', (by rw [List.map_append]; exact (M.app dL2).mono (by omega)), by rw [List.length_append, lps]; rfl, fun p hp => ?_, cnt5.mono (by omega)⟩
      rcases List.mem_append.mp hp with h | h
      · exact ok p h
      · rw [List.mem_singleton.mp h]; exact ⟨lts, tok⟩
    rintro H3 ⟨us, ps, kvs, M, lps, ok, cnt⟩
    have s3 : Sm [b] H H3 := by
      intro x o e
      have hx := off_mem e
      have e2 := sc _ _ e
      have xD : x ≠ D := fun z => by
        rw [off_out hx, z, nD] at e; cases e
      rw [off_out hx] at e2 ⊢
      exact sm_at M.sm (by simp [xD] at hx ⊢; exact hx) e2
    refine q _ R ps (M.st.mono (by omega)) s3 (dp_same (off_mono (by simp)) M.done) ⟨by omega, ok⟩
/-! ### _law_team -/
abbrev Tm : Type := Str × Str × Int × Int
def tmD (t : Tm) : PyData := .tuple [.str t.1, .str t.2.1, .int t.2.2.1, .int t.2.2.2]
structure TmOk (t : Tm) : Prop where
  n : Nm t.1
  c : Nm t.2.1
  a : 0 ≤ t.2.2.1 ∧ t.2.2.1 ≤ 60
  b : 0 ≤ t.2.2.2 ∧ t.2.2.2 ≤ 60
theorem tr_dp {K : PySem.W.Frag} {H : Hp} {v : V} {t : Trn} (h : Dp K H v (trD t)) : ∃ a, v = .ref a ∧ SqT K H a [.int t.1, .str t.2.1, .int t.2.2.1, .int t.2.2.2] := by
  obtain ⟨a, xs, rfl, hs, ha⟩ := dp_tup h
  obtain ⟨x, y, z, u, rfl, h1, h2, h3, h4⟩ := dp_four ha
  rw [dp_int h1, dp_str h2, dp_int h3, dp_int h4] at hs
  exact ⟨a, rfl, hs⟩
theorem tm_dp {K : PySem.W.Frag} {H : Hp} {v : V} {t : Tm} (h : Dp K H v (tmD t)) : ∃ a, v = .ref a ∧ SqT K H a [.str t.1, .str t.2.1, .int t.2.2.1, .int t.2.2.2] := by
  obtain ⟨a, xs, rfl, hs, ha⟩ := dp_tup h
  obtain ⟨x, y, z, u, rfl, h1, h2, h3, h4⟩ := dp_four ha
  rw [dp_str h1, dp_str h2, dp_int h3, dp_int h4] at hs
  exact ⟨a, rfl, hs⟩
theorem bd_tr {cs : List Col} (pal : ∀ c ∈ cs, Nm c.1) {t : Trn} (h : TrOk cs t) : Bd 9 1000 5870 1 40 (trD t) := by
  obtain ⟨c, hc, ec⟩ := h.c
  have hn := pal c hc
  rw [ec] at hn
  obtain ⟨a1, a2⟩ := h.a
  obtain ⟨b1, b2⟩ := h.b
  have bs : Bd 9 1000 92 0 40 (.str t.2.1) := (bd_str (Nat.le_trans hn.1.1 (by decide)) (by decide) hn.ascii).mono (Nat.le_refl _) (Nat.le_refl _) (by decide) (Nat.le_refl _) (Nat.zero_le _)
  have bi : ∀ {i : Int}, i.natAbs ≤ 1000 → Bd 9 1000 1921 0 40 (.int i) := fun h => (bd_int h).mono (Nat.le_refl _) (Nat.le_refl _) (Nat.le_refl _) (Nat.le_refl _) (Nat.zero_le _)
  have b4 : Bds 9 1000 (1921 + 2 + (92 + 2 + (1921 + 2 + (1921 + 2)))) 0 40 [.int t.1, .str t.2.1, .int t.2.2.1, .int t.2.2.2] := (Bds.one (bi (by omega))).app ((Bds.one bs).app ((Bds.one (bi (by omega))).app (Bds.one (bi (by omega)))))
  exact (b4.tuple (by show 4 ≤ 40; decide)).mono (Nat.le_refl _) (Nat.le_refl _) (by decide) (Nat.le_refl _) (Nat.le_refl _)
theorem bds_map {α : Type} {n m C D W : Nat} {f : α → PyData} : ∀ {l : List α}, (∀ x ∈ l, Bd n m C D W (f x)) → Bds n m ((C + 2) * l.length) D W (l.map f)
  | [], _ => Bds.nil
  | x :: l, h => by
    have h1 := Bds.one (h x List.mem_cons_self)
    have h2 := bds_map (l := l) fun y hy => h y (List.mem_cons_of_mem _ hy)
    exact (h1.app h2).mono (Nat.le_refl _) (Nat.le_refl _) (by rw [List.length_cons, Nat.mul_succ]; omega) (Nat.le_refl _) (Nat.le_refl _)
theorem bd_pot {cs : List Col} (pal : ∀ c ∈ cs, Nm c.1) {p : List Trn} (h : p.length ≤ 9 ∧ ∀ t ∈ p, TrOk cs t) : Bd 9 1000 52851 2 40 (potD p) := by
  have b := (bds_map (f := trD) fun t ht => bd_tr pal (h.2 t ht)).list (show (p.map trD).length ≤ 40 by rw [List.length_map]; omega)
  exact b.mono (Nat.le_refl _) (Nat.le_refl _) (by have := Nat.mul_le_mul_left 5872 h.1; omega) (Nat.le_refl _) (Nat.le_refl _)
theorem bd_pots {cs : List Col} (pal : ∀ c ∈ cs, Nm c.1) {ps : List (List Trn)} (h : PotsOk cs ps) : Bd 9 1000 422827 3 40 (potsD ps) := by
  have b := (bds_map (f := potD) fun p hp => bd_pot pal (h.e p hp)).list (show (ps.map potD).length ≤ 40 by rw [List.length_map]; have := h.l; omega)
  exact b.mono (Nat.le_refl _) (Nat.le_refl _) (by have := Nat.mul_le_mul_left 52853 h.l; omega) (Nat.le_refl _) (Nat.le_refl _)
theorem bd_shaped {n m C D W : Nat} {d : PyData} (b : Bd n m C D W d) (h : D ≤ 60) : SeqAt.shaped d = true := gd_shaped b.t.g (Nat.le_trans b.t.d (by omega))
theorem eqv_nil {α : Type} (f : α → PyData) : ∀ l : List α, PyData.eqv (.list (l.map f)) (.list []) = l.isEmpty
  | [] => rfl
  | _ :: _ => rfl
abbrev s__law_team : Stmt := topS 17
def n__law_team : List Str := ["_law_box_here", "_law_palette_here", "_law_pots_here", "_law_name", "_law_pot_here", "_law_first", "_law_colour", "_law_at", "_law_begin", "_law_end", "_law_last"]
theorem sc__law_team : FnScope n__law_team ["_law_box_here", "_law_palette_here", "_law_pots_here", "_law_name"] (defScope s__law_team) := ⟨rfl, rfl, rfl, by decide +kernel, rfl, by decide +kernel, by decide +kernel⟩
def spTeam (K : PySem.W.Frag) : Sp := fun vs H Q _ => ∃ (b P : Addr) (v : V) (cs : List Col) (ws : List Wsh) (ps : List (List Trn)) (z : Str) (n : Nat), vs = [.ref b, v, .ref P, .str z] ∧ Bp H b n ∧ n < 2 ^ 37 ∧ Dp K (off H [b]) v (palD cs ws) ∧ PalE cs ws ∧ Dp K (off H [b]) (.ref P) (potsD ps) ∧ PotsOk cs ps ∧ Nm z ∧
  ∀ (H' : Hp) (t : Addr) (tm : Tm), Bp H' b (n + 10) → Sm [b] H H' → Dp K (off H' [b]) (.ref t) (tmD tm) → TmOk tm → Q (.ref t) H'
set_option maxHeartbeats 1000000 in
theorem ok_team {f : Addr} {fd : FuncData} {k : Nat} (F : Fun K "_law_team" "_law_team" s__law_team f fd) (T : Txt mg) (c__law_take : Cl P w K mg base (k + 1) "_law_take" spTake) : FnOk P w K mg base CX0 (k + 2) f fd ["_law_box_here", "_law_palette_here", "_law_pots_here", "_law_name"] (spTeam K) := by
  refine F.ok sc__law_team (fun vs H Q E h => ?_) (fun cdv A outer s H vs Q E hr h => ?_)
  · obtain ⟨b, P, v, cs, ws, ps, z, n, rfl, _⟩ := h
    rfl
  · obtain ⟨b, P, v, cs, ws, ps, z, n, rfl, B, hn, dv, pal, dps, pok, hz, q⟩ := h
    have nd := sc__law_team.nd
    have hu64 := hr.units
    /- 0 _law_box_here, 1 _law_palette_here, 2 _law_pots_here, 3 _law_name, 4 _law_pot_here, 5 _law_first, 6 _law_colour, 7 _law_at, 8 _law_begin, 9 _law_end, 10 _law_last -/
    refine ⟨_, (pss_cons (ps_set (i := 4) nd rfl (.inl rfl) (pe_ifExp (pt_cmpR (ko_ne (K := K) hu64) (pv 2) (pe_lst pa_nil) (nomark _)) (pe_ix (kx_list (K := K)) (pv 2) (pe_cl c__law_take hr (by omega) (by rfl) (pa_cons (pv 0) (pa_cons (pe_callB (kc_len (K := K)) (by rfl) T.len PySem.boot_len (pa_cons (pv 2) pa_nil)) pa_nil))) (fun _ _ => rfl)) (pe_lst pa_nil)))
      (pss_cons (ps_if ((pw_or (pt_cmpR (ko_eq (K := K) hu64) (pv 4) (pe_lst pa_nil) (nomark _)) (pw_or1 (pt_cmpR op_eq (pe_cl c__law_take hr (by omega) (by rfl) (pa_cons (pv 0) (pa_cons pe_int pa_nil))) pe_int (nomark _))))).pt
          (pss_cons (ps_set (i := 5) nd rfl (.inl rfl) (pe_cl c__law_take hr (by omega) (by rfl) (pa_cons (pv 0) (pa_cons pe_int pa_nil))))
          (pss_cons (ps_set (i := 6) nd rfl (.inl rfl) (pe_ix (kx_tup (K := K)) (pe_ix (kx_tup (K := K)) (pe_ix (kx_tup (K := K)) (pv 1) pe_int (fun _ _ => rfl)) (pe_cl c__law_take hr (by omega) (by rfl) (pa_cons (pv 0) (pa_cons (pe_callB (kc_len (K := K)) (by rfl) T.len PySem.boot_len (pa_cons (pe_ix (kx_tup (K := K)) (pv 1) pe_int (fun _ _ => rfl)) pa_nil)) pa_nil))) (fun _ _ => rfl)) pe_int (fun _ _ => rfl)))
          (pss_one (ps_ret (pe_tup (pa_cons (pv 3) (pa_cons (pv 6) (pa_cons (pv 5) (pa_cons (pe_op op_add (pe_op op_add (pv 5) pe_int) (pe_cl c__law_take hr (by omega) (by rfl) (pa_cons (pv 0) (pa_cons (pe_callB (call_min2 rfl) (by rfl) T.min (by decide +kernel) (pa_cons (pe_op op_sub pe_int (pv 5)) (pa_cons (pe_ix (kx_list (K := K)) (pe_lst (pa_cons pe_int (pa_cons pe_int pa_nil))) (pe_cl c__law_take hr (by omega) (by rfl) (pa_cons (pv 0) (pa_cons pe_int pa_nil))) (fun _ _ => rfl)) pa_nil))) pa_nil)))) pa_nil)))))))))
          pss_nil)
      (pss_cons (ps_asg (pe_ix (kx_list (K := K)) (pv 4) (pe_cl c__law_take hr (by omega) (by rfl) (pa_cons (pv 0) (pa_cons (pe_callB (kc_len (K := K)) (by rfl) T.len PySem.boot_len (pa_cons (pv 4) pa_nil)) pa_nil))) (fun _ _ => rfl)) (kg_tup (K := K) (n := 4) (pgs_cons (pg_name (i := 7) nd rfl (.inl rfl)) (pgs_cons (pg_name (i := 6) nd rfl (.inl rfl)) (pgs_cons (pg_name (i := 8) nd rfl (.inl rfl)) (pgs_cons (pg_name (i := 9) nd rfl (.inl rfl)) pgs_nil))))))
      (pss_cons (ps_set (i := 5) nd rfl (.inl rfl) (pe_op op_add (pv 8) (pe_cl c__law_take hr (by omega) (by rfl) (pa_cons (pv 0) (pa_cons (pe_op op_sub (pv 9) (pv 8)) pa_nil)))))
      (pss_cons (ps_set (i := 10) nd rfl (.inl rfl) (pe_op op_add (pe_op op_add (pv 5) pe_int) (pe_cl c__law_take hr (by omega) (by rfl) (pa_cons (pv 0) (pa_cons (pe_op op_sub (pv 9) (pv 5)) pa_nil)))))
      (pss_cons (ps_if (pt_cmpR op_eq (pe_cl c__law_take hr (by omega) (by rfl) (pa_cons (pv 0) (pa_cons pe_int pa_nil))) pe_int (nomark _))
          (pss_one (ps_ret (pe_tup (pa_cons (pv 3) (pa_cons (pv 6) (pa_cons (pe_callB (call_max2 rfl) (by rfl) T.max (by decide +kernel) (pa_cons pe_int (pa_cons (pe_op op_sub (pv 5) pe_int) pa_nil))) (pa_cons (pv 10) pa_nil)))))))
          pss_nil)
      (pss_one (ps_ret (pe_tup (pa_cons (pv 3) (pa_cons (pv 6) (pa_cons (pv 5) (pa_cons (pe_callB (call_min2 rfl) (by rfl) T.min (by decide +kernel) (pa_cons pe_int (pa_cons (pe_op op_add (pv 10) (pe_callTy call_int1 (by rfl) T.int (by decide +kernel) (pa_cons (pe_cmpR op_eq (pe_cl c__law_take hr (by omega) (by rfl) (pa_cons (pv 0) (pa_cons pe_int pa_nil))) pe_int (nomark _)) pa_nil))) pa_nil))) pa_nil))))))))))))), ?_⟩
    obtain ⟨S, eS⟩ : ∃ S, S = [b] := ⟨_, rfl⟩
    have hb : b ∈ S := by rw [eS]; simp
    have sc : Sm [b] H H := Same.refl _
    have lv : Live S H := by rw [eS]; exact Live.pw B
    rw [← eS] at dv dps
    refine ⟨_, rfl, Nat.zero_le _, fun e0 ne0 => ?_⟩
    have fe0 := off_new (o := .lst []) lv ne0
    have lv := lv.put (o := .lst []) ne0
    have B := B.put (o := .lst []) ne0
    have sc := sc.trans (sm_put (S := [b]) (o := .lst []) ne0)
    have dv := dp_same ((sm_put (S := S) (o := .lst []) ne0)) dv
    have dps := dp_same ((sm_put (S := S) (o := .lst []) ne0)) dps
    generalize upd H e0 (.lst []) = H1 at fe0 lv B sc dv dps ⊢
    have shN : SeqAt.shaped (.list []) = true := by decide
    refine ⟨_, _, dp_off dps, .lst (SqL.of (at_off fe0)) .nil, bd_shaped (bd_pots pal.wd pok) (by decide), shN, _, rfl, ?_⟩
    rw [show PyData.eqv (potsD ps) (.list []) = ps.isEmpty from eqv_nil potD ps]
    clear fe0
    cases hps : ps.isEmpty with
    | true =>
      refine iteF ⟨Nat.zero_le _, fun a4 na4 => ?_⟩
      have fa4 := off_new (o := .lst []) lv na4
      have lv := lv.put (o := .lst []) na4
      have B := B.put (o := .lst []) na4
      have sc := sc.trans (sm_put (S := [b]) (o := .lst []) na4)
      have dv := dp_same ((sm_put (S := S) (o := .lst []) na4)) dv
      generalize upd H1 a4 (.lst []) = H4 at fa4 lv B sc dv ⊢
      have dpt : Dp K (off H4 S) (.ref a4) (potD []) := .lst (SqL.of fa4) .nil
      have tsok : ([] : List Trn).length ≤ 9 ∧ ∀ t ∈ ([] : List Trn), TrOk cs t := ⟨by decide, fun _ h => (List.not_mem_nil h).elim⟩
      generalize ([] : List Trn) = ts at dpt tsok
      clear fa4
      refine ⟨_, rfl, Nat.zero_le _, fun e2 ne2 => ?_⟩
      have fe2 := off_new (o := .lst []) lv ne2
      have lv := lv.put (o := .lst []) ne2
      have B := B.put (o := .lst []) ne2
      have sc := sc.trans (sm_put (S := [b]) (o := .lst []) ne2)
      have dv := dp_same ((sm_put (S := S) (o := .lst []) ne2)) dv
      have dpt := dp_same ((sm_put (S := S) (o := .lst []) ne2)) dpt
      generalize upd H4 e2 (.lst []) = H5 at fe2 lv B sc dv dpt ⊢
      refine ⟨_, _, dp_off dpt, .lst (SqL.of (at_off fe2)) .nil, bd_shaped (bd_pot pal.wd tsok) (by decide), shN, _, rfl, ?_⟩
      rw [show PyData.eqv (potD ts) (.list []) = ts.isEmpty from eqv_nil trD ts]
      clear fe2
      cases hts : ts.isEmpty with
      | true =>
        refine iteT ?_
        refine ⟨_, rfl, b, 60, _, rfl, (by decide), (by decide), B, by omega, fun H5 f f0 f1 B5 s5 => ?_⟩
        have lv := lv.box B5.bx s5
        have sc := sc.trans s5
        have B := B5
        have dv := dp_same ((sm_one hb s5)) dv
        obtain ⟨p, ca, wa, xs, ys, ev, hp, hc, hx, hw, hy⟩ := pal_dp dv
        have lx : xs.length = cs.length := dpAll_map_len hx
        have lne := pal.ne
        have lle := pal.le
        rw [ev]
        refine ⟨_, rfl, p, _, 0, .ref ca, rfl, rfl, sqt_off hp, rfl, _, rfl, _, rfl, p, _, 0, .ref ca, rfl, rfl, sqt_off hp, rfl, _, _, rfl, .inr ⟨_, sqt_off hc, rfl⟩, b, _, _, rfl, (by omega), (by omega), B, by omega, fun H6 r r0 r1 B6 s6 => ?_⟩
        have s6' : Sm S H5 H6 := sm_one hb s6
        have lv := lv.box B6.bx s6
        have sc := sc.trans s6
        have B := B6
        have dv := dp_same ((sm_one hb s6)) dv
        obtain ⟨j, rfl⟩ : ∃ j : Nat, r = (j : Int) := ⟨r.toNat, by omega⟩
        have hj : j < xs.length := by omega
        obtain ⟨c, gc, dpc⟩ := dpAll_map_at hx (List.getElem?_eq_getElem hj)
        obtain ⟨rr, er, hrr⟩ := col_dp (dp_same s6' dpc)
        have hnm := pal.wd c (List.mem_of_getElem? gc)
        refine ⟨ca, _, j, _, rfl, rfl, sqt_off (same_tup s6' hc), atI_nat (List.getElem?_eq_getElem hj), ?_⟩
        rw [er]
        refine ⟨rr, _, 0, _, rfl, rfl, sqt_off hrr, rfl, ?_⟩
        refine ⟨_, rfl, _, rfl, _, rfl, _, rfl, _, _, rfl, rfl, _, rfl, _, rfl, _, _, rfl, rfl, (by show 2 ≤ sizeLine; decide), fun a1 na1 => ?_⟩
        have fa1 := off_new (o := .lst [.int 2, .int 60]) lv na1
        have lv := lv.put (o := .lst [.int 2, .int 60]) na1
        have B := B.put (o := .lst [.int 2, .int 60]) na1
        have sc := sc.trans (sm_put (S := [b]) (o := .lst [.int 2, .int 60]) na1)
        generalize upd H6 a1 (.lst [.int 2, .int 60]) = H7 at fa1 lv B sc  ⊢
        refine ⟨_, rfl, b, 2, _, rfl, (by decide), (by decide), B, by omega, fun H8 r2 r20 r21 B8 s8 => ?_⟩
        have lv := lv.box B8.bx s8
        have sc := sc.trans s8
        have B := B8
        have fa1 := (sm_one hb s8) _ _ fa1
        obtain ⟨e1, ee1, e10⟩ : ∃ e1 : Int, atI [V.int 2, .int 60] r2 = some (.int e1) ∧ 1 ≤ e1 := by
          have h : r2 = 0 ∨ r2 = 1 := by omega
          rcases h with rfl | rfl
          · exact ⟨_, rfl, by decide⟩
          · exact ⟨_, rfl, by decide⟩
        refine ⟨a1, _, r2, _, rfl, rfl, SqL.of (at_off fa1), ee1, _, _, rfl, b, _, _, rfl, (by split <;> omega), (by split <;> omega), B, by omega, fun Hz g g0 g1 B9 s9 => ⟨_, _, rfl, rfl, (by show 4 ≤ sizeLine; decide), fun t nt => ?_⟩⟩
        have g2 : g < 60 - f := by split at g1 <;> omega
        have lv := lv.box B9.bx s9
        have sc := sc.trans s9
        have B := B9
        obtain ⟨tm, etm⟩ : ∃ tm : Tm, tm = (z, c.1, f, f + 1 + g) := ⟨_, rfl⟩
        have tok : TmOk tm := by rw [etm]; exact ⟨hz, hnm, ⟨f0, by show f ≤ 60; omega⟩, ⟨by show 0 ≤ f + 1 + g; omega, by show f + 1 + g ≤ 60; omega⟩⟩
        show Q _ (upd Hz t (HO.tup [.str z, .str c.1, .int f, .int (f + 1 + g)]))
        have dtm := off_new (o := HO.tup [.str z, .str c.1, .int f, .int (f + 1 + g)]) lv nt
        exact q _ t (z, c.1, f, f + 1 + g) ((B.put nt).mono (by omega)) (sc.trans (sm_put nt)) (by rw [← eS]; exact .tup (.inl (.inl dtm)) (.cons (.str _) (.cons (.str _) (.cons (.int _) (.cons (.int _) .nil))))) (by rw [← etm]; exact tok)
      | false =>
        refine iteF ⟨_, rfl, b, 6, _, rfl, (by decide), (by decide), B, by omega, fun H6 r r0 r1 B6 s6 => ⟨rfl, _, rfl, ite2 (fun h6 => ?_) (fun h6 => ?_)⟩⟩
        · skip
          have lv := lv.box B6.bx s6
          have sc := sc.trans s6
          have B := B6
          have dv := dp_same ((sm_one hb s6)) dv
          refine ⟨_, rfl, b, 60, _, rfl, (by decide), (by decide), B, by omega, fun H5 f f0 f1 B5 s5 => ?_⟩
          have lv := lv.box B5.bx s5
          have sc := sc.trans s5
          have B := B5
          have dv := dp_same ((sm_one hb s5)) dv
          obtain ⟨p, ca, wa, xs, ys, ev, hp, hc, hx, hw, hy⟩ := pal_dp dv
          have lx : xs.length = cs.length := dpAll_map_len hx
          have lne := pal.ne
          have lle := pal.le
          rw [ev]
          refine ⟨_, rfl, p, _, 0, .ref ca, rfl, rfl, sqt_off hp, rfl, _, rfl, _, rfl, p, _, 0, .ref ca, rfl, rfl, sqt_off hp, rfl, _, _, rfl, .inr ⟨_, sqt_off hc, rfl⟩, b, _, _, rfl, (by omega), (by omega), B, by omega, fun H6 r r0 r1 B6 s6 => ?_⟩
          have s6' : Sm S H5 H6 := sm_one hb s6
          have lv := lv.box B6.bx s6
          have sc := sc.trans s6
          have B := B6
          have dv := dp_same ((sm_one hb s6)) dv
          obtain ⟨j, rfl⟩ : ∃ j : Nat, r = (j : Int) := ⟨r.toNat, by omega⟩
          have hj : j < xs.length := by omega
          obtain ⟨c, gc, dpc⟩ := dpAll_map_at hx (List.getElem?_eq_getElem hj)
          obtain ⟨rr, er, hrr⟩ := col_dp (dp_same s6' dpc)
          have hnm := pal.wd c (List.mem_of_getElem? gc)
          refine ⟨ca, _, j, _, rfl, rfl, sqt_off (same_tup s6' hc), atI_nat (List.getElem?_eq_getElem hj), ?_⟩
          rw [er]
          refine ⟨rr, _, 0, _, rfl, rfl, sqt_off hrr, rfl, ?_⟩
          refine ⟨_, rfl, _, rfl, _, rfl, _, rfl, _, _, rfl, rfl, _, rfl, _, rfl, _, _, rfl, rfl, (by show 2 ≤ sizeLine; decide), fun a1 na1 => ?_⟩
          have fa1 := off_new (o := .lst [.int 2, .int 60]) lv na1
          have lv := lv.put (o := .lst [.int 2, .int 60]) na1
          have B := B.put (o := .lst [.int 2, .int 60]) na1
          have sc := sc.trans (sm_put (S := [b]) (o := .lst [.int 2, .int 60]) na1)
          generalize upd H6 a1 (.lst [.int 2, .int 60]) = H7 at fa1 lv B sc  ⊢
          refine ⟨_, rfl, b, 2, _, rfl, (by decide), (by decide), B, by omega, fun H8 r2 r20 r21 B8 s8 => ?_⟩
          have lv := lv.box B8.bx s8
          have sc := sc.trans s8
          have B := B8
          have fa1 := (sm_one hb s8) _ _ fa1
          obtain ⟨e1, ee1, e10⟩ : ∃ e1 : Int, atI [V.int 2, .int 60] r2 = some (.int e1) ∧ 1 ≤ e1 := by
            have h : r2 = 0 ∨ r2 = 1 := by omega
            rcases h with rfl | rfl
            · exact ⟨_, rfl, by decide⟩
            · exact ⟨_, rfl, by decide⟩
          refine ⟨a1, _, r2, _, rfl, rfl, SqL.of (at_off fa1), ee1, _, _, rfl, b, _, _, rfl, (by split <;> omega), (by split <;> omega), B, by omega, fun Hz g g0 g1 B9 s9 => ⟨_, _, rfl, rfl, (by show 4 ≤ sizeLine; decide), fun t nt => ?_⟩⟩
          have g2 : g < 60 - f := by split at g1 <;> omega
          have lv := lv.box B9.bx s9
          have sc := sc.trans s9
          have B := B9
          obtain ⟨tm, etm⟩ : ∃ tm : Tm, tm = (z, c.1, f, f + 1 + g) := ⟨_, rfl⟩
          have tok : TmOk tm := by rw [etm]; exact ⟨hz, hnm, ⟨f0, by show f ≤ 60; omega⟩, ⟨by show 0 ≤ f + 1 + g; omega, by show f + 1 + g ≤ 60; omega⟩⟩
          show Q _ (upd Hz t (HO.tup [.str z, .str c.1, .int f, .int (f + 1 + g)]))
          have dtm := off_new (o := HO.tup [.str z, .str c.1, .int f, .int (f + 1 + g)]) lv nt
          exact q _ t (z, c.1, f, f + 1 + g) ((B.put nt).mono (by omega)) (sc.trans (sm_put nt)) (by rw [← eS]; exact .tup (.inl (.inl dtm)) (.cons (.str _) (.cons (.str _) (.cons (.int _) (.cons (.int _) .nil))))) (by rw [← etm]; exact tok)
        have lv := lv.box B6.bx s6
        have sc := sc.trans s6
        have B := B6
        have dv := dp_same ((sm_one hb s6)) dv
        have dpt := dp_same ((sm_one hb s6)) dpt
        obtain ⟨ap, us, eap, hs, da⟩ := dp_lst dpt
        have lus : us.length = ts.length := dpAll_map_len da
        have lts : 0 < ts.length := by
          cases ts with
          | nil => cases hts
          | cons _ _ => exact Nat.succ_pos _
        have lt9 := tsok.1
        rw [eap]
        refine ⟨_, rfl, _, rfl, _, rfl, _, _, rfl, .inl ⟨_, sq_off hs, rfl⟩, b, _, _, rfl, (by omega), (by omega), B, by omega, fun H7 i i0 i1 B7 s7 => ?_⟩
        have s7' : Sm S H6 H7 := sm_one hb s7
        have lv := lv.box B7.bx s7
        have sc := sc.trans s7
        have B := B7
        obtain ⟨j, rfl⟩ : ∃ j : Nat, i = (j : Int) := ⟨i.toNat, by omega⟩
        have hj : j < us.length := by omega
        obtain ⟨tr, gt, dtr⟩ := dpAll_map_at da (List.getElem?_eq_getElem hj)
        obtain ⟨rr, er, hrr⟩ := tr_dp (dp_same s7' dtr)
        have trk := tsok.2 tr (List.mem_of_getElem? gt)
        obtain ⟨t1, t2⟩ := trk.a
        obtain ⟨t3, t4⟩ := trk.b
        obtain ⟨c, hcm, ecn⟩ := trk.c
        have hnm : Nm tr.2.1 := by rw [← ecn]; exact pal.wd c hcm
        refine ⟨ap, _, j, _, rfl, rfl, s7'.seq hs |> sq_off, atI_nat (List.getElem?_eq_getElem hj), ?_⟩
        rw [er]
        refine ⟨rr, _, rfl, sqt_off hrr, rfl, _, _, rfl, _, _, rfl, _, _, rfl, _, _, rfl, rfl, ?_⟩
        have fin : ∀ (Hz : Hp) (x y : Int) (t : Addr), Bp Hz b (n + 10) → Sm [b] H Hz → Live S Hz → Hz t = none → 0 ≤ x → x ≤ 60 → 0 ≤ y → y ≤ 60 → Q (.ref t) (upd Hz t (.tup [.str z, .str tr.2.1, .int x, .int y])) := fun Hz x y t Bz sz lz nt x0 x1 y0 y1 => by
          have dtm := off_new (o := HO.tup [.str z, .str tr.2.1, .int x, .int y]) lz nt
          exact q _ t (z, tr.2.1, x, y) (Bz.put nt) (sz.trans (sm_put nt)) (by rw [← eS]; exact .tup (.inl (.inl dtm)) (.cons (.str _) (.cons (.str _) (.cons (.int _) (.cons (.int _) .nil))))) ⟨hz, hnm, ⟨x0, x1⟩, ⟨y0, y1⟩⟩
        refine ⟨_, rfl, _, rfl, _, rfl, _, rfl, _, _, rfl, rfl, b, _, _, rfl, (by omega), (by omega), B, by omega, fun H8 f f0 f1 B8 s8 => ⟨_, _, rfl, rfl, ?_⟩⟩
        have lv := lv.box B8.bx s8
        have sc := sc.trans s8
        have B := B8
        refine ⟨_, rfl, _, _, rfl, rfl, _, rfl, _, rfl, _, rfl, _, _, rfl, rfl, b, _, _, rfl, (by omega), (by omega), B, by omega, fun H9 g g0 g1 B9 s9 => ⟨_, _, rfl, rfl, ?_⟩⟩
        have lv := lv.box B9.bx s9
        have sc := sc.trans s9
        have B := B9
        refine ⟨_, rfl, b, 8, _, rfl, (by decide), (by decide), B, by omega, fun H10 r8 r80 r81 B10 s10 => ⟨rfl, _, rfl, ite2 (fun h8 => ?_) (fun h8 => ?_)⟩⟩
        · skip
          have lv := lv.box B10.bx s10
          have sc := sc.trans s10
          have B := B10
          refine ⟨_, rfl, _, rfl, _, rfl, _, _, rfl, rfl, _, _, rfl, _, rfl, (by show 4 ≤ sizeLine; decide), fun t nt => ?_⟩
          exact fin _ _ _ t (B.mono (by omega)) sc lv nt (by split <;> omega) (by split <;> omega) (by omega) (by omega)
        · skip
          have lv := lv.box B10.bx s10
          have sc := sc.trans s10
          have B := B10
          refine ⟨_, rfl, _, rfl, _, rfl, _, rfl, _, rfl, b, 8, _, rfl, (by decide), (by decide), B, by omega, fun H11 r9 r90 r91 B11 s11 => ⟨rfl, .inr ⟨_, rfl, _, _, rfl, rfl, _, _, rfl, (by show 4 ≤ sizeLine; decide), fun t nt => ?_⟩⟩⟩
          have lv := lv.box B11.bx s11
          have sc := sc.trans s11
          have B := B11
          generalize hbb : (if decide (V.int r9 = V.int 0) = true then (1 : Int) else 0) = bb
          have b01 : 0 ≤ bb ∧ bb ≤ 1 := by rw [← hbb]; split <;> decide
          exact fin _ _ _ t (B.mono (by omega)) sc lv nt (by omega) (by omega) (by split <;> omega) (by split <;> omega)
    | false =>
      obtain ⟨ap0, us0, eap0, hs0, da0⟩ := dp_lst dps
      have hs0 : SqL K (off H1 S) P us0 := by rw [V.ref.inj eap0]; exact hs0
      have lus0 : us0.length = ps.length := dpAll_map_len da0
      have lps0 : 0 < ps.length := by
        cases ps with
        | nil => cases hps
        | cons _ _ => exact Nat.succ_pos _
      have lps8 := pok.l
      refine iteT ⟨_, rfl, _, rfl, _, rfl, _, _, rfl, .inl ⟨_, sq_off hs0, rfl⟩, b, _, _, rfl, (by omega), (by omega), B, by omega, fun H4 i i0 i1 B4 s4 => ?_⟩
      have s4' : Sm S H1 H4 := sm_one hb s4
      have lv := lv.box B4.bx s4
      have sc := sc.trans s4
      have B := B4
      have dv := dp_same ((sm_one hb s4)) dv
      obtain ⟨j, rfl⟩ : ∃ j : Nat, i = (j : Int) := ⟨i.toNat, by omega⟩
      have hj : j < us0.length := by omega
      obtain ⟨ts, gts, dts⟩ := dpAll_map_at da0 (List.getElem?_eq_getElem hj)
      have tsok := pok.e ts (List.mem_of_getElem? gts)
      have dpt0 := dp_same s4' dts
      obtain ⟨a4, us4, ea4, hs4, da4⟩ := dp_lst dpt0
      rw [ea4] at dpt0
      have dpt := dpt0
      refine ⟨P, _, j, _, rfl, rfl, sq_off (s4'.seq hs0), atI_nat (by rw [List.getElem?_eq_getElem hj, ea4]), ?_⟩
      clear dts da0 hs0 eap0 hs4 da4 dpt0
      refine ⟨_, rfl, Nat.zero_le _, fun e2 ne2 => ?_⟩
      have fe2 := off_new (o := .lst []) lv ne2
      have lv := lv.put (o := .lst []) ne2
      have B := B.put (o := .lst []) ne2
      have sc := sc.trans (sm_put (S := [b]) (o := .lst []) ne2)
      have dv := dp_same ((sm_put (S := S) (o := .lst []) ne2)) dv
      have dpt := dp_same ((sm_put (S := S) (o := .lst []) ne2)) dpt
      generalize upd H4 e2 (.lst []) = H5 at fe2 lv B sc dv dpt ⊢
      refine ⟨_, _, dp_off dpt, .lst (SqL.of (at_off fe2)) .nil, bd_shaped (bd_pot pal.wd tsok) (by decide), shN, _, rfl, ?_⟩
      rw [show PyData.eqv (potD ts) (.list []) = ts.isEmpty from eqv_nil trD ts]
      clear fe2
      cases hts : ts.isEmpty with
      | true =>
        refine iteT ?_
        refine ⟨_, rfl, b, 60, _, rfl, (by decide), (by decide), B, by omega, fun H5 f f0 f1 B5 s5 => ?_⟩
        have lv := lv.box B5.bx s5
        have sc := sc.trans s5
        have B := B5
        have dv := dp_same ((sm_one hb s5)) dv
        obtain ⟨p, ca, wa, xs, ys, ev, hp, hc, hx, hw, hy⟩ := pal_dp dv
        have lx : xs.length = cs.length := dpAll_map_len hx
        have lne := pal.ne
        have lle := pal.le
        rw [ev]
        refine ⟨_, rfl, p, _, 0, .ref ca, rfl, rfl, sqt_off hp, rfl, _, rfl, _, rfl, p, _, 0, .ref ca, rfl, rfl, sqt_off hp, rfl, _, _, rfl, .inr ⟨_, sqt_off hc, rfl⟩, b, _, _, rfl, (by omega), (by omega), B, by omega, fun H6 r r0 r1 B6 s6 => ?_⟩
        have s6' : Sm S H5 H6 := sm_one hb s6
        have lv := lv.box B6.bx s6
        have sc := sc.trans s6
        have B := B6
        have dv := dp_same ((sm_one hb s6)) dv
        obtain ⟨j, rfl⟩ : ∃ j : Nat, r = (j : Int) := ⟨r.toNat, by omega⟩
        have hj : j < xs.length := by omega
        obtain ⟨c, gc, dpc⟩ := dpAll_map_at hx (List.getElem?_eq_getElem hj)
        obtain ⟨rr, er, hrr⟩ := col_dp (dp_same s6' dpc)
        have hnm := pal.wd c (List.mem_of_getElem? gc)
        refine ⟨ca, _, j, _, rfl, rfl, sqt_off (same_tup s6' hc), atI_nat (List.getElem?_eq_getElem hj), ?_⟩
        rw [er]
        refine ⟨rr, _, 0, _, rfl, rfl, sqt_off hrr, rfl, ?_⟩
        refine ⟨_, rfl, _, rfl, _, rfl, _, rfl, _, _, rfl, rfl, _, rfl, _, rfl, _, _, rfl, rfl, (by show 2 ≤ sizeLine; decide), fun a1 na1 => ?_⟩
        have fa1 := off_new (o := .lst [.int 2, .int 60]) lv na1
        have lv := lv.put (o := .lst [.int 2, .int 60]) na1
        have B := B.put (o := .lst [.int 2, .int 60]) na1
        have sc := sc.trans (sm_put (S := [b]) (o := .lst [.int 2, .int 60]) na1)
        generalize upd H6 a1 (.lst [.int 2, .int 60]) = H7 at fa1 lv B sc  ⊢
        refine ⟨_, rfl, b, 2, _, rfl, (by decide), (by decide), B, by omega, fun H8 r2 r20 r21 B8 s8 => ?_⟩
        have lv := lv.box B8.bx s8
        have sc := sc.trans s8
        have B := B8
        have fa1 := (sm_one hb s8) _ _ fa1
        obtain ⟨e1, ee1, e10⟩ : ∃ e1 : Int, atI [V.int 2, .int 60] r2 = some (.int e1) ∧ 1 ≤ e1 := by
          have h : r2 = 0 ∨ r2 = 1 := by omega
          rcases h with rfl | rfl
          · exact ⟨_, rfl, by decide⟩
          · exact ⟨_, rfl, by decide⟩
        refine ⟨a1, _, r2, _, rfl, rfl, SqL.of (at_off fa1), ee1, _, _, rfl, b, _, _, rfl, (by split <;> omega), (by split <;> omega), B, by omega, fun Hz g g0 g1 B9 s9 => ⟨_, _, rfl, rfl, (by show 4 ≤ sizeLine; decide), fun t nt => ?_⟩⟩
        have g2 : g < 60 - f := by split at g1 <;> omega
        have lv := lv.box B9.bx s9
        have sc := sc.trans s9
        have B := B9
        obtain ⟨tm, etm⟩ : ∃ tm : Tm, tm = (z, c.1, f, f + 1 + g) := ⟨_, rfl⟩
        have tok : TmOk tm := by rw [etm]; exact ⟨hz, hnm, ⟨f0, by show f ≤ 60; omega⟩, ⟨by show 0 ≤ f + 1 + g; omega, by show f + 1 + g ≤ 60; omega⟩⟩
        show Q _ (upd Hz t (HO.tup [.str z, .str c.1, .int f, .int (f + 1 + g)]))
        have dtm := off_new (o := HO.tup [.str z, .str c.1, .int f, .int (f + 1 + g)]) lv nt
        exact q _ t (z, c.1, f, f + 1 + g) ((B.put nt).mono (by omega)) (sc.trans (sm_put nt)) (by rw [← eS]; exact .tup (.inl (.inl dtm)) (.cons (.str _) (.cons (.str _) (.cons (.int _) (.cons (.int _) .nil))))) (by rw [← etm]; exact tok)
      | false =>
        refine iteF ⟨_, rfl, b, 6, _, rfl, (by decide), (by decide), B, by omega, fun H6 r r0 r1 B6 s6 => ⟨rfl, _, rfl, ite2 (fun h6 => ?_) (fun h6 => ?_)⟩⟩
        · skip
          have lv := lv.box B6.bx s6
          have sc := sc.trans s6
          have B := B6
          have dv := dp_same ((sm_one hb s6)) dv
          refine ⟨_, rfl, b, 60, _, rfl, (by decide), (by decide), B, by omega, fun H5 f f0 f1 B5 s5 => ?_⟩
          have lv := lv.box B5.bx s5
          have sc := sc.trans s5
          have B := B5
          have dv := dp_same ((sm_one hb s5)) dv
          obtain ⟨p, ca, wa, xs, ys, ev, hp, hc, hx, hw, hy⟩ := pal_dp dv
          have lx : xs.length = cs.length := dpAll_map_len hx
          have lne := pal.ne
          have lle := pal.le
          rw [ev]
          refine ⟨_, rfl, p, _, 0, .ref ca, rfl, rfl, sqt_off hp, rfl, _, rfl, _, rfl, p, _, 0, .ref ca, rfl, rfl, sqt_off hp, rfl, _, _, rfl, .inr ⟨_, sqt_off hc, rfl⟩, b, _, _, rfl, (by omega), (by omega), B, by omega, fun H6 r r0 r1 B6 s6 => ?_⟩
          have s6' : Sm S H5 H6 := sm_one hb s6
          have lv := lv.box B6.bx s6
          have sc := sc.trans s6
          have B := B6
          have dv := dp_same ((sm_one hb s6)) dv
          obtain ⟨j, rfl⟩ : ∃ j : Nat, r = (j : Int) := ⟨r.toNat, by omega⟩
          have hj : j < xs.length := by omega
          obtain ⟨c, gc, dpc⟩ := dpAll_map_at hx (List.getElem?_eq_getElem hj)
          obtain ⟨rr, er, hrr⟩ := col_dp (dp_same s6' dpc)
          have hnm := pal.wd c (List.mem_of_getElem? gc)
          refine ⟨ca, _, j, _, rfl, rfl, sqt_off (same_tup s6' hc), atI_nat (List.getElem?_eq_getElem hj), ?_⟩
          rw [er]
          refine ⟨rr, _, 0, _, rfl, rfl, sqt_off hrr, rfl, ?_⟩
          refine ⟨_, rfl, _, rfl, _, rfl, _, rfl, _, _, rfl, rfl, _, rfl, _, rfl, _, _, rfl, rfl, (by show 2 ≤ sizeLine; decide), fun a1 na1 => ?_⟩
          have fa1 := off_new (o := .lst [.int 2, .int 60]) lv na1
          have lv := lv.put (o := .lst [.int 2, .int 60]) na1
          have B := B.put (o := .lst [.int 2, .int 60]) na1
          have sc := sc.trans (sm_put (S := [b]) (o := .lst [.int 2, .int 60]) na1)
          generalize upd H6 a1 (.lst [.int 2, .int 60]) = H7 at fa1 lv B sc  ⊢
          refine ⟨_, rfl, b, 2, _, rfl, (by decide), (by decide), B, by omega, fun H8 r2 r20 r21 B8 s8 => ?_⟩
          have lv := lv.box B8.bx s8
          have sc := sc.trans s8
          have B := B8
          have fa1 := (sm_one hb s8) _ _ fa1
          obtain ⟨e1, ee1, e10⟩ : ∃ e1 : Int, atI [V.int 2, .int 60] r2 = some (.int e1) ∧ 1 ≤ e1 := by
            have h : r2 = 0 ∨ r2 = 1 := by omega
            rcases h with rfl | rfl
            · exact ⟨_, rfl, by decide⟩
            · exact ⟨_, rfl, by decide⟩
          refine ⟨a1, _, r2, _, rfl, rfl, SqL.of (at_off fa1), ee1, _, _, rfl, b, _, _, rfl, (by split <;> omega), (by split <;> omega), B, by omega, fun Hz g g0 g1 B9 s9 => ⟨_, _, rfl, rfl, (by show 4 ≤ sizeLine; decide), fun t nt => ?_⟩⟩
          have g2 : g < 60 - f := by split at g1 <;> omega
          have lv := lv.box B9.bx s9
          have sc := sc.trans s9
          have B := B9
          obtain ⟨tm, etm⟩ : ∃ tm : Tm, tm = (z, c.1, f, f + 1 + g) := ⟨_, rfl⟩
          have tok : TmOk tm := by rw [etm]; exact ⟨hz, hnm, ⟨f0, by show f ≤ 60; omega⟩, ⟨by show 0 ≤ f + 1 + g; omega, by show f + 1 + g ≤ 60; omega⟩⟩
          show Q _ (upd Hz t (HO.tup [.str z, .str c.1, .int f, .int (f + 1 + g)]))
          have dtm := off_new (o := HO.tup [.str z, .str c.1, .int f, .int (f + 1 + g)]) lv nt
          exact q _ t (z, c.1, f, f + 1 + g) ((B.put nt).mono (by omega)) (sc.trans (sm_put nt)) (by rw [← eS]; exact .tup (.inl (.inl dtm)) (.cons (.str _) (.cons (.str _) (.cons (.int _) (.cons (.int _) .nil))))) (by rw [← etm]; exact tok)
        have lv := lv.box B6.bx s6
        have sc := sc.trans s6
        have B := B6
        have dv := dp_same ((sm_one hb s6)) dv
        have dpt := dp_same ((sm_one hb s6)) dpt
        obtain ⟨ap, us, eap, hs, da⟩ := dp_lst dpt
        have lus : us.length = ts.length := dpAll_map_len da
        have lts : 0 < ts.length := by
          cases ts with
          | nil => cases hts
          | cons _ _ => exact Nat.succ_pos _
        have lt9 := tsok.1
        rw [eap]
        refine ⟨_, rfl, _, rfl, _, rfl, _, _, rfl, .inl ⟨_, sq_off hs, rfl⟩, b, _, _, rfl, (by omega), (by omega), B, by omega, fun H7 i i0 i1 B7 s7 => ?_⟩
        have s7' : Sm S H6 H7 := sm_one hb s7
        have lv := lv.box B7.bx s7
        have sc := sc.trans s7
        have B := B7
        obtain ⟨j, rfl⟩ : ∃ j : Nat, i = (j : Int) := ⟨i.toNat, by omega⟩
        have hj : j < us.length := by omega
        obtain ⟨tr, gt, dtr⟩ := dpAll_map_at da (List.getElem?_eq_getElem hj)
        obtain ⟨rr, er, hrr⟩ := tr_dp (dp_same s7' dtr)
        have trk := tsok.2 tr (List.mem_of_getElem? gt)
        obtain ⟨t1, t2⟩ := trk.a
        obtain ⟨t3, t4⟩ := trk.b
        obtain ⟨c, hcm, ecn⟩ := trk.c
        have hnm : Nm tr.2.1 := by rw [← ecn]; exact pal.wd c hcm
        refine ⟨ap, _, j, _, rfl, rfl, s7'.seq hs |> sq_off, atI_nat (List.getElem?_eq_getElem hj), ?_⟩
        rw [er]
        refine ⟨rr, _, rfl, sqt_off hrr, rfl, _, _, rfl, _, _, rfl, _, _, rfl, _, _, rfl, rfl, ?_⟩
        have fin : ∀ (Hz : Hp) (x y : Int) (t : Addr), Bp Hz b (n + 10) → Sm [b] H Hz → Live S Hz → Hz t = none → 0 ≤ x → x ≤ 60 → 0 ≤ y → y ≤ 60 → Q (.ref t) (upd Hz t (.tup [.str z, .str tr.2.1, .int x, .int y])) := fun Hz x y t Bz sz lz nt x0 x1 y0 y1 => by
          have dtm := off_new (o := HO.tup [.str z, .str tr.2.1, .int x, .int y]) lz nt
          exact q _ t (z, tr.2.1, x, y) (Bz.put nt) (sz.trans (sm_put nt)) (by rw [← eS]; exact .tup (.inl (.inl dtm)) (.cons (.str _) (.cons (.str _) (.cons (.int _) (.cons (.int _) .nil))))) ⟨hz, hnm, ⟨x0, x1⟩, ⟨y0, y1⟩⟩
        refine ⟨_, rfl, _, rfl, _, rfl, _, rfl, _, _, rfl, rfl, b, _, _, rfl, (by omega), (by omega), B, by omega, fun H8 f f0 f1 B8 s8 => ⟨_, _, rfl, rfl, ?_⟩⟩
        have lv := lv.box B8.bx s8
        have sc := sc.trans s8
        have B := B8
        refine ⟨_, rfl, _, _, rfl, rfl, _, rfl, _, rfl, _, rfl, _, _, rfl, rfl, b, _, _, rfl, (by omega), (by omega), B, by omega, fun H9 g g0 g1 B9 s9 => ⟨_, _, rfl, rfl, ?_⟩⟩
        have lv := lv.box B9.bx s9
        have sc := sc.trans s9
        have B := B9
        refine ⟨_, rfl, b, 8, _, rfl, (by decide), (by decide), B, by omega, fun H10 r8 r80 r81 B10 s10 => ⟨rfl, _, rfl, ite2 (fun h8 => ?_) (fun h8 => ?_)⟩⟩
        · skip
          have lv := lv.box B10.bx s10
          have sc := sc.trans s10
          have B := B10
          refine ⟨_, rfl, _, rfl, _, rfl, _, _, rfl, rfl, _, _, rfl, _, rfl, (by show 4 ≤ sizeLine; decide), fun t nt => ?_⟩
          exact fin _ _ _ t (B.mono (by omega)) sc lv nt (by split <;> omega) (by split <;> omega) (by omega) (by omega)
        · skip
          have lv := lv.box B10.bx s10
          have sc := sc.trans s10
          have B := B10
          refine ⟨_, rfl, _, rfl, _, rfl, _, rfl, _, rfl, b, 8, _, rfl, (by decide), (by decide), B, by omega, fun H11 r9 r90 r91 B11 s11 => ⟨rfl, .inr ⟨_, rfl, _, _, rfl, rfl, _, _, rfl, (by show 4 ≤ sizeLine; decide), fun t nt => ?_⟩⟩⟩
          have lv := lv.box B11.bx s11
          have sc := sc.trans s11
          have B := B11
          generalize hbb : (if decide (V.int r9 = V.int 0) = true then (1 : Int) else 0) = bb
          have b01 : 0 ≤ bb ∧ bb ≤ 1 := by rw [← hbb]; split <;> decide
          exact fin _ _ _ t (B.mono (by omega)) sc lv nt (by omega) (by omega) (by split <;> omega) (by split <;> omega)

end
end Pot

namespace Pot
open PySem PySem.Spec PyProof.Rows L2
section
variable {P : Program} {w : World} {K : PySem.W.Frag} {mg : Str → Option Value} {base : Heap}
/-! ### a loop told by what stands at each turn -/
theorem loop_it {J : It} {n : Nat} {G : Hp → Prop} {Y : Nat → Hp → V → Hp → Prop} (w : Walk J n G Y) {Body : (Hp → Prop) → V → Hp → Prop} {Hs : Hp} {Qd : Hp → Prop} (R : Nat → Hp → Prop) (hst : R 0 Hs) (hgo : ∀ i H, i ≤ n → R i H → G H)
    (step : ∀ i x H H', i < n → R i H → Y i H x H' → Body (R (i + 1)) x H') (fin : ∀ H, R n H → Qd H) :
    ∃ W : Nat → Nat → Hp → Prop, (∃ m, W 0 m Hs) ∧ ∀ i m H, W i m H → (J.stop i H ∧ Qd H) ∨ (J.go i H ∧ ∃ Nx : Hp → Prop, (∀ H', Nx H' → ∃ m', m' < m ∧ W (i + 1) m' H') ∧ ∀ x H', J.yld i H x H' → Body Nx x H') := by
  let W : Nat → Nat → Hp → Prop := fun i m H => i + m = n ∧ R i H
  refine ⟨W, ⟨n, Nat.zero_add n, hst⟩, ?_⟩
  intro i m H hW
  have hG := hgo i H (by have := hW.1; omega) hW.2
  rcases Nat.eq_zero_or_pos m with z | z
  · have en : i = n := by have := hW.1; omega
    rw [en] at hW ⊢
    exact Or.inl (And.intro (w.stops H hG) (fin H hW.2))
  · have hl : i < n := by have := hW.1; omega
    refine Or.inr (And.intro (w.goes i H hl hG) ⟨R (i + 1), fun H' hR => ⟨m - 1, by omega, ⟨by have := hW.1; omega, hR⟩⟩, ?_⟩)
    intro x H' hy
    exact step i x H H' hl hW.2 (w.yields i H x H' hl hG hy)
/-! ### offers: the turns of a colour -/
abbrev Off5 : Type := Nat × Nat × Int × Int × Int
def o5V (t : Addr) : V := .ref t
def o5D (o : Off5) : PyData := .tuple [.int (o.1 : Nat), .int (o.2.1 : Nat), .int o.2.2.1, .int o.2.2.2.1, .int o.2.2.2.2]
def selT (g : Int) (z : Str) (i : Nat) : List Trn → Nat → List Off5
  | [], _ => []
  | t :: ts, j => (if t.2.1 = z then [(i, j, t.2.2.1, t.2.2.2, g)] else []) ++ selT g z i ts (j + 1)
def selP (g : Int) (z : Str) : List (List Trn) → Nat → List Off5
  | [], _ => []
  | ts :: ps, i => selT g z i ts 0 ++ selP g z ps (i + 1)
theorem selT_app (g : Int) (z : Str) (i : Nat) : ∀ (a b : List Trn) (j : Nat), selT g z i (a ++ b) j = selT g z i a j ++ selT g z i b (j + a.length)
  | [], b, j => by simp [selT]
  | t :: a, b, j => by
    show _ ++ selT g z i (a ++ b) (j + 1) = (_ ++ selT g z i a (j + 1)) ++ _
    rw [selT_app g z i a b (j + 1), List.append_assoc, List.length_cons, show j + 1 + a.length = j + (a.length + 1) by omega]
theorem selP_app (g : Int) (z : Str) : ∀ (a b : List (List Trn)) (j : Nat), selP g z (a ++ b) j = selP g z a j ++ selP g z b (j + a.length)
  | [], b, j => by simp [selP]
  | t :: a, b, j => by
    show _ ++ selP g z (a ++ b) (j + 1) = (_ ++ selP g z a (j + 1)) ++ _
    rw [selP_app g z a b (j + 1), List.append_assoc, List.length_cons, show j + 1 + a.length = j + (a.length + 1) by omega]
theorem selT_take {g : Int} {z : Str} {i : Nat} {ts : List Trn} {j : Nat} {t : Trn} (h : ts[j]? = some t) : selT g z i (ts.take (j + 1)) 0 = selT g z i (ts.take j) 0 ++ (if t.2.1 = z then [(i, j, t.2.2.1, t.2.2.2, g)] else []) := by
  have hj := (List.getElem?_eq_some_iff.mp h).1
  rw [List.take_add_one, h, selT_app]
  show _ ++ ((if t.2.1 = z then _ else _) ++ []) = _
  rw [List.append_nil, List.length_take, Nat.min_eq_left (by omega), Nat.zero_add]
theorem selP_take {g : Int} {z : Str} {ps : List (List Trn)} {i : Nat} {ts : List Trn} (h : ps[i]? = some ts) : selP g z (ps.take (i + 1)) 0 = selP g z (ps.take i) 0 ++ selT g z i ts 0 := by
  have hj := (List.getElem?_eq_some_iff.mp h).1
  rw [List.take_add_one, h, selP_app]
  show _ ++ (selT g z _ ts 0 ++ []) = _
  rw [List.append_nil, List.length_take, Nat.min_eq_left (by omega), Nat.zero_add]
theorem selT_len (g : Int) (z : Str) (i : Nat) : ∀ (a : List Trn) (j : Nat), (selT g z i a j).length ≤ a.length
  | [], _ => Nat.le_refl _
  | t :: a, j => by
    have := selT_len g z i a (j + 1)
    show ((if t.2.1 = z then [((i, j, t.2.2.1, t.2.2.2, g) : Off5)] else []) ++ selT g z i a (j + 1)).length ≤ a.length + 1
    rw [List.length_append]
    have : (if t.2.1 = z then [((i, j, t.2.2.1, t.2.2.2, g) : Off5)] else []).length ≤ 1 := by split <;> simp
    omega
theorem selP_len {g : Int} {z : Str} : ∀ {ps : List (List Trn)} (j : Nat), (∀ p ∈ ps, p.length ≤ 9) → (selP g z ps j).length ≤ 9 * ps.length
  | [], _, _ => Nat.le_refl _
  | t :: a, j, h => by
    have h1 := selP_len (g := g) (z := z) (ps := a) (j + 1) fun p hp => h p (List.mem_cons_of_mem _ hp)
    have h2 := selT_len g z j t 0
    have h3 := h t List.mem_cons_self
    show (selT g z j t 0 ++ selP g z a (j + 1)).length ≤ 9 * (a.length + 1)
    rw [List.length_append]
    omega
abbrev s_offers_of : Stmt := topS 5
def n_offers_of : List Str := ["palette", "pots", "colour", "pot", "turns", "number", "turn"]
theorem sc_offers_of : FnScope n_offers_of ["palette", "pots", "colour"] (defScope s_offers_of) := ⟨rfl, rfl, rfl, by decide +kernel, rfl, by decide +kernel, by decide +kernel⟩
def spOffers (K : PySem.W.Frag) : Sp := fun vs H Q _ => ∃ (P : Addr) (v : V) (cs : List Col) (ws : List Wsh) (ps : List (List Trn)) (c : Col), vs = [v, .ref P, .str c.1] ∧ Dp K H v (palD cs ws) ∧ Dp K H (.ref P) (potsD ps) ∧ PotsOk cs ps ∧ cs.length ≤ 20 ∧ c ∈ cs ∧ colF cs c.1 = some c ∧
  ∀ (H' : Hp) (L : Addr) (us : List V), Same H H' → H L = none → H' L = some (.lst us) → DpAll K H' us ((selP c.2.2.2 c.1 ps 0).map o5D) → Q (.ref L) H'
set_option maxHeartbeats 2000000 in
theorem ok_offers {f : Addr} {fd : FuncData} {k : Nat} (F : Fun K "offers_of" "offers_of" s_offers_of f fd) (T : Txt mg) (c_colour_row : Cl P w K mg base (k + 1) "colour_row" (spColour K)) : FnOk P w K mg base CX0 (k + 2) f fd ["palette", "pots", "colour"] (spOffers K) := by
  refine F.ok sc_offers_of (fun vs H Q E h => ?_) (fun cdv A outer s H vs Q E hr h => ?_)
  · obtain ⟨P, v, cs, ws, ps, c, rfl, _⟩ := h
    rfl
  · obtain ⟨P, v, cs, ws, ps, c, rfl, dv, dps, pok, hc20, hcm, hcf, q⟩ := h
    have nd := sc_offers_of.nd
    /- 0 palette, 1 pots, 2 colour, 3 pot, 4 turns, 5 number, 6 turn -/
    refine ⟨_, (pss_one (ps_ret (pe_lc2 (own := [("pot", 3), ("turns", 4), ("number", 5), ("turn", 6)]) (vs1 := [5, 6]) rfl nd (ki_enum (K := K) (by rfl) T.enumerate (pa_cons (pv 1) pa_nil)) (blkOk_by (N := n_offers_of) (sc := defScope s_offers_of) (by decide +kernel)) (by decide) (fun _ _ _ _ _ => (kg_tup (K := K) (n := 2) (pgs_cons (pg_name (i := 3) nd rfl (.inl rfl)) (pgs_cons (pg_name (i := 4) nd rfl (.inl rfl)) pgs_nil)))) (fun _ _ _ _ _ => pts_nil) (fun _ _ _ _ _ => (ki_enum (K := K) (by rfl) T.enumerate (pa_cons (pv 4) pa_nil))) (fun _ _ _ _ _ => (kg_tup (K := K) (n := 2) (pgs_cons (pg_name (i := 5) nd rfl (.inl rfl)) (pgs_cons (pg_name (i := 6) nd rfl (.inl rfl)) pgs_nil)))) (fun _ _ _ _ _ => (pts_one (pt_cmpR op_eq (pe_ix (kx_tup (K := K)) (pv 6) pe_int (fun _ _ => rfl)) (pv 2) (nomark _)))) (fun _ _ _ _ _ => (pe_tup (pa_cons (pv 3) (pa_cons (pv 5) (pa_cons (pe_ix (kx_tup (K := K)) (pv 6) pe_int (fun _ _ => rfl)) (pa_cons (pe_ix (kx_tup (K := K)) (pv 6) pe_int (fun _ _ => rfl)) (pa_cons (pe_ix (kx_tup (K := K)) (pe_cl c_colour_row hr (by omega) (by rfl) (pa_cons (pv 0) (pa_cons (pv 2) pa_nil))) pe_int (fun _ _ => rfl)) pa_nil)))))))))), ?_⟩
    obtain ⟨P', xs, eP, hs, da⟩ := dp_lst dps
    have eP2 := V.ref.inj eP
    subst eP2
    have lxs : xs.length = ps.length := dpAll_map_len da
    refine ⟨_, rfl, P, _, rfl, hs, fun D nD => ?_⟩
    have lvD : ∀ {Hx : Hp} {us : List V}, Hx D = some (.lst us) → Live [D] Hx := fun h x hx e => by rw [List.mem_singleton.mp hx, h] at e; cases e
    refine loop_it (walk_enum (xs := xs)) (fun i Hx => Same H Hx ∧ ∃ us, Hx D = some (.lst us) ∧ DpAll K (off Hx [D]) us ((selP c.2.2.2 c.1 (ps.take i) 0).map o5D)) ⟨same_upd nD, [], upd_same, .nil⟩ (fun i Hx _ h => h.1.seq hs) ?_ ?_
    · rintro i x H1 H2 hi ⟨s1, us, hD, du⟩ ⟨t, x1, x2, rfl, nt, rfl, g1, g2⟩
      cases g1
      replace g2 : xs[i]? = some x2 := g2
      obtain ⟨ts, gts, dts⟩ := dpAll_map_at da g2
      have tsk := pok.e ts (List.mem_of_getElem? gts)
      obtain ⟨a4, us4, ea4, hs4, da4⟩ := dp_lst dts
      subst ea4
      have lts : us4.length = ts.length := dpAll_map_len da4
      have st := same_upd (o := .tup [.int (i : Nat), .ref a4]) nt
      have ft : upd H1 t (.tup [.int (i : Nat), .ref a4]) t = _ := upd_same
      have hD := st _ _ hD
      have du := dpAll_same (sm_put (S := [D]) (o := .tup [.int (i : Nat), .ref a4]) nt) du
      have s1 := s1.trans st
      generalize upd H1 t (.tup [.int (i : Nat), .ref a4]) = H2 at ft hD du s1 ⊢
      refine ⟨t, _, rfl, .inl (.inl ft), rfl, _, _, rfl, _, _, rfl, rfl, rfl, tYes_at ?_⟩
      rw [if_pos rfl]
      refine ⟨_, rfl, a4, _, rfl, s1.seq hs4, ?_⟩
      clear ft nt st
      have hi8 := pok.l
      have lsel := selP_len (g := c.2.2.2) (z := c.1) (ps := ps.take i) 0 (fun p hp => (pok.e p (List.mem_of_mem_take hp)).1)
      have ltk : (ps.take i).length ≤ 8 := by rw [List.length_take]; omega
      refine loop_it (walk_enum (xs := us4)) (fun j Hx => Same H Hx ∧ ∃ us, Hx D = some (.lst us) ∧ DpAll K (off Hx [D]) us ((selP c.2.2.2 c.1 (ps.take i) 0 ++ selT c.2.2.2 c.1 i (ts.take j) 0).map o5D)) ⟨s1, us, hD, by rw [show selT c.2.2.2 c.1 i (ts.take 0) 0 = [] from rfl, List.append_nil]; exact du⟩ (fun j Hx _ h => h.1.seq hs4) ?_ ?_
      · clear hD du s1
        rintro j x H3 H4 hj ⟨s3, us, hD, du⟩ ⟨t2, y1, y2, rfl, nt, rfl, g1, g2⟩
        cases g1
        replace g2 : us4[j]? = some y2 := g2
        obtain ⟨tr, gtr, dtr⟩ := dpAll_map_at da4 g2
        obtain ⟨rr, er, hrr⟩ := tr_dp dtr
        subst er
        have st := same_upd (o := .tup [.int (j : Nat), .ref rr]) nt
        have ft : upd H3 t2 (.tup [.int (j : Nat), .ref rr]) t2 = _ := upd_same
        have hD := st _ _ hD
        have du := dpAll_same (sm_put (S := [D]) (o := .tup [.int (j : Nat), .ref rr]) nt) du
        have s3 := s3.trans st
        generalize upd H3 t2 (.tup [.int (j : Nat), .ref rr]) = H4 at ft hD du s3 ⊢
        have hr3 := same_tup s3 hrr
        refine ⟨t2, _, rfl, .inl (.inl ft), rfl, _, _, rfl, _, _, rfl, rfl, rfl, ?_⟩
        have lus : us.length ≤ 90 := by
          rw [dpAll_map_len du, List.length_append]
          have h1 := selT_len c.2.2.2 c.1 i (ts.take j) 0
          have h2 : (ts.take j).length ≤ 9 := by rw [List.length_take]; have := tsk.1; omega
          omega
        refine ⟨_, rfl, rr, _, 1, _, rfl, rfl, hr3, rfl, _, rfl, rfl, _, rfl, ?_⟩
        rw [decS]
        by_cases he : tr.2.1 = c.1
        · rw [decide_eq_true he]
          refine iteT ⟨_, rfl, _, rfl, _, rfl, rr, _, 2, _, rfl, rfl, hr3, rfl, _, rfl, rr, _, 3, _, rfl, rfl, hr3, rfl, ?_⟩
          refine ⟨_, rfl, _, rfl, v, cs, ws, c.1, rfl, dp_same s3 dv, ⟨c, hcm, rfl⟩, fun x c2 hc2 dc => ?_⟩
          rw [hcf] at hc2
          cases hc2
          obtain ⟨r5, er5, hr5⟩ := col_dp dc
          subst er5
          refine ⟨r5, _, 3, _, rfl, rfl, hr5, rfl, (by show 5 ≤ sizeLine; decide), fun p np => ?_⟩
          have fp := off_new (o := .tup [.int (i : Nat), .int (j : Nat), .int tr.2.2.1, .int tr.2.2.2, .int c.2.2.2]) (lvD hD) np
          have hD := same_upd (o := .tup [.int (i : Nat), .int (j : Nat), .int tr.2.2.1, .int tr.2.2.2, .int c.2.2.2]) np _ _ hD
          have du := dpAll_same (sm_put (S := [D]) (o := .tup [.int (i : Nat), .int (j : Nat), .int tr.2.2.1, .int tr.2.2.2, .int c.2.2.2]) np) du
          have s3 := s3.trans (same_upd (o := .tup [.int (i : Nat), .int (j : Nat), .int tr.2.2.1, .int tr.2.2.2, .int c.2.2.2]) np)
          refine ⟨us, hD, Nat.lt_of_le_of_lt lus (by decide), same_put s3 nD, us ++ [.ref p], upd_same, ?_⟩
          have sw : Sm [D] (upd H4 p (.tup [.int (i : Nat), .int (j : Nat), .int tr.2.2.1, .int tr.2.2.2, .int c.2.2.2])) (upd (upd H4 p (.tup [.int (i : Nat), .int (j : Nat), .int tr.2.2.1, .int tr.2.2.2, .int c.2.2.2])) D (.lst (us ++ [.ref p]))) := sm_wr List.mem_cons_self
          have dn : Dp K (off (upd H4 p (.tup [.int (i : Nat), .int (j : Nat), .int tr.2.2.1, .int tr.2.2.2, .int c.2.2.2])) [D]) (.ref p) (o5D (i, j, tr.2.2.1, tr.2.2.2, c.2.2.2)) := .tup (.inl (.inl fp)) (.cons (.int _) (.cons (.int _) (.cons (.int _) (.cons (.int _) (.cons (.int _) .nil)))))
          rw [selT_take gtr, if_pos he, ← List.append_assoc, List.map_append]
          exact dpAll_same sw (dpAll_app' du (.cons dn .nil))
        · rw [decide_eq_false he]
          refine iteF ⟨s3, us, hD, ?_⟩
          rw [selT_take gtr, if_neg he, List.append_nil]
          exact du
      · rintro H3 ⟨s3, us, hD, du⟩
        refine ⟨s3, us, hD, ?_⟩
        rw [selP_take gts]
        rw [List.take_of_length_le (l := ts) (by omega)] at du
        exact du
    · rintro H1 ⟨s1, us, hD, du⟩
      rw [lxs, List.take_of_length_le (Nat.le_refl _)] at du
      exact q H1 D us s1 nD hD (dpAll_same off_sub du)

end
end Pot

namespace Pot
open PySem PySem.Spec PyProof.Rows L2
section
variable {P : Program} {w : World} {K : PySem.W.Frag} {mg : Str → Option Value} {base : Heap}
abbrev s__law_turns_of : Stmt := topS 18
def n__law_turns_of : List Str := ["_law_palette_here", "_law_pots_here", "_law_colour", "_law_gathers", "_law_found", "_law_pot_here", "_law_turns", "_law_number", "_law_turn", "_law_row"]
theorem sc__law_turns_of : FnScope n__law_turns_of ["_law_palette_here", "_law_pots_here", "_law_colour"] (defScope s__law_turns_of) := ⟨rfl, rfl, rfl, by decide +kernel, rfl, by decide +kernel, by decide +kernel⟩
set_option maxHeartbeats 2000000 in
theorem ok_turnsof {f : Addr} {fd : FuncData} {k : Nat} (F : Fun K "_law_turns_of" "_law_turns_of" s__law_turns_of f fd) (T : Txt mg) : FnOk P w K mg base CX0 (k + 1) f fd ["_law_palette_here", "_law_pots_here", "_law_colour"] (spOffers K) := by
  refine F.ok sc__law_turns_of (fun vs H Q E h => ?_) (fun cdv A outer s H vs Q E hr h => ?_)
  · obtain ⟨P, v, cs, ws, ps, c, rfl, _⟩ := h
    rfl
  · obtain ⟨P, v, cs, ws, ps, c, rfl, dv, dps, pok, hc20, hcm, hcf, q⟩ := h
    have nd := sc__law_turns_of.nd
    /- 0 _law_palette_here, 1 _law_pots_here, 2 _law_colour, 3 _law_gathers, 4 _law_found, 5 _law_pot_here, 6 _law_turns, 7 _law_number, 8 _law_turn, 9 _law_row -/
    refine ⟨_, (pss_cons (ps_par (i := 3) (j := 4) rfl nd rfl rfl (by decide) rfl rfl (pa_cons (pe_ix (kx_list (K := K)) (pe_lc (own := [("_law_row", 9)]) rfl nd (ki_tup (K := K) (pe_ix (kx_tup (K := K)) (pv 0) pe_int (fun _ _ => rfl))) (blkOk_by (N := n__law_turns_of) (sc := defScope s__law_turns_of) (by decide +kernel)) (fun _ _ _ _ _ => (pg_name (i := 9) nd rfl (.inl rfl))) (fun _ _ _ _ _ => (pts_one (pt_cmpR op_eq (pe_ix (kx_tup (K := K)) (pv 9) pe_int (fun _ _ => rfl)) (pv 2) (nomark _)))) (fun _ _ _ _ _ => (pe_ix (kx_tup (K := K)) (pv 9) pe_int (fun _ _ => rfl)))) pe_int (fun _ _ => rfl)) (pa_cons (pe_lst pa_nil) pa_nil)) rfl)
      (pss_cons (ps_for PassesOwn.never rfl (ki_enum (K := K) (by rfl) T.enumerate (pa_cons (pv 1) pa_nil)) (kg_tup (K := K) (n := 2) (pgs_cons (pg_name (i := 5) nd rfl (.inl rfl)) (pgs_cons (pg_name (i := 6) nd rfl (.inl rfl)) pgs_nil)))
          (pss_one (ps_for PassesOwn.never rfl (ki_enum (K := K) (by rfl) T.enumerate (pa_cons (pv 6) pa_nil)) (kg_tup (K := K) (n := 2) (pgs_cons (pg_name (i := 7) nd rfl (.inl rfl)) (pgs_cons (pg_name (i := 8) nd rfl (.inl rfl)) pgs_nil)))
              (pss_one (ps_expr (pe_bm PySem.F.plainAttrs_list PySem.F.slot_list_extend PySem.F.type_list_extend mt_extend (pv 4) (pa_cons (pe_op op_rep (pe_lst (pa_cons (pe_op (op_catA) (pe_op (op_catA) (pe_tup (pa_cons (pv 5) (pa_cons (pv 7) pa_nil))) (pe_slice (kl_tup (K := K)) (pv 8) (po_some pe_int) po_none)) (pe_tup (pa_cons (pv 3) pa_nil))) pa_nil)) (pe_callTy call_int1 (by rfl) T.int (by decide +kernel) (pa_cons (pe_cmpR op_eq (pe_ix (kx_tup (K := K)) (pv 8) pe_int (fun _ _ => rfl)) (pv 2) (nomark _)) pa_nil))) pa_nil)))))))
      (pss_one (ps_ret (pv 4))))), ?_⟩
    obtain ⟨P', xs, eP, hs, da⟩ := dp_lst dps
    have eP2 := V.ref.inj eP
    subst eP2
    have lxs : xs.length = ps.length := dpAll_map_len da
    obtain ⟨p, ca, wa, cx, cy, ev, hp, hc, hx, hw, hy⟩ := pal_dp dv
    subst ev
    have lcx : cx.length = cs.length := dpAll_map_len hx
    refine ⟨_, rfl, p, _, 0, .ref ca, rfl, rfl, hp, rfl, ca, rfl, ⟨_, hc⟩, fun D nD => ?_⟩
    obtain ⟨l0, el0⟩ := colF_head hcf
    have hcs := hc20
    refine lc_it (walk_tup (xs := cx)) (PvL H D fun i => ((cs.take i).filter (fun x => decide (x.1 = c.1))).map fun x => V.int x.2.2.2) (pv_start nD rfl) (fun i H2 _ h => same_tup h.1 hc) ?_ ?_
    · rintro i x H2 H3 hi pv ⟨rfl, gx⟩
      obtain ⟨r, gr, dp⟩ := dpAll_map_at hx gx
      obtain ⟨t, rfl, ht⟩ := col_dp dp
      have ht3 := same_tup pv.1 ht
      have l6 := pok.l
      refine ⟨rfl, _, rfl, t, _, 0, _, rfl, rfl, ht3, rfl, _, rfl, rfl, _, rfl, ?_⟩
      rw [decS]
      have small : (((cs.take i).filter (fun x => decide (x.1 = c.1))).map fun x => V.int x.2.2.2).length < sizeLine := by
        rw [List.length_map]
        exact Nat.lt_of_le_of_lt (Nat.le_trans (List.length_filter_le ..) (Nat.le_trans (List.length_take_le' ..) hcs)) (by decide)
      refine ite2 (fun hb => ?_) (fun hb => ?_)
      · refine ⟨_, rfl, t, _, 3, _, rfl, rfl, ht3, rfl, ?_⟩
        refine pv_put nD pv (Same.refl _) ?_ small
        rw [List.take_add_one, gr, Option.toList_some, List.filter_append, List.map_append]; simp [hb]
      · refine pv_skip pv (Same.refl _) ?_
        rw [List.take_add_one, gr, Option.toList_some, List.filter_append, List.map_append]; simp [hb]
    intro H1 pv
    obtain ⟨s1, hD⟩ := pv_end pv (show _ = ((cs.filter (fun x => decide (x.1 = c.1))).map fun x => V.int x.2.2.2) by rw [lcx, List.take_length])
    rw [el0] at hD
    refine ⟨D, _, 0, _, rfl, rfl, SqL.of hD, atI_nat (j := 0) rfl, Nat.zero_le _, fun R nR => ⟨_, _, rfl, ?_⟩⟩
    have nR0 : H R = none := s1.free nR
    have lvR : ∀ {Hx : Hp} {us : List V}, Hx R = some (.lst us) → Live [R] Hx := fun h x hx e => by rw [List.mem_singleton.mp hx, h] at e; cases e
    have hR : upd H1 R (.lst []) R = some (.lst []) := upd_same
    have s2 := s1.trans (same_upd (o := .lst []) nR)
    generalize upd H1 R (.lst []) = H2 at hR s2 ⊢
    refine ⟨_, rfl, P, _, rfl, s2.seq hs, ?_⟩
    refine for_it (walk_enum (xs := xs)) (fun i σ Hx => ∃ (v5 v6 v7 v8 v9 : Option V) (us : List V), σ = [some (.ref p), some (.ref P), some (.str c.1), some (.int c.2.2.2), some (.ref R), v5, v6, v7, v8, v9] ∧ Same H Hx ∧ Hx R = some (.lst us) ∧ DpAll K (off Hx [R]) us ((selP c.2.2.2 c.1 (ps.take i) 0).map o5D)) ⟨_, _, _, _, _, [], rfl, s2, hR, .nil⟩ (fun i σ Hx _ h => by obtain ⟨_, _, _, _, _, _, _, h, _⟩ := h; exact h.seq hs) ?_ ?_
    · clear hR s2
      rintro i x σ H3 H4 hi ⟨v5, v6, v7, v8, v9, us, rfl, s3, hR, du⟩ ⟨t, x1, x2, rfl, nt, rfl, g1, g2⟩
      cases g1
      replace g2 : xs[i]? = some x2 := g2
      obtain ⟨ts, gts, dts⟩ := dpAll_map_at da g2
      have tsk := pok.e ts (List.mem_of_getElem? gts)
      obtain ⟨a4, us4, ea4, hs4, da4⟩ := dp_lst dts
      subst ea4
      have lts : us4.length = ts.length := dpAll_map_len da4
      have st := same_upd (o := .tup [.int (i : Nat), .ref a4]) nt
      have ft : upd H3 t (.tup [.int (i : Nat), .ref a4]) t = _ := upd_same
      have hR := st _ _ hR
      have du := dpAll_same (sm_put (S := [R]) (o := .tup [.int (i : Nat), .ref a4]) nt) du
      have s3 := s3.trans st
      generalize upd H3 t (.tup [.int (i : Nat), .ref a4]) = H4 at ft hR du s3 ⊢
      refine ⟨t, _, rfl, .inl (.inl ft), rfl, _, _, rfl, _, _, rfl, rfl, ?_⟩
      refine ⟨_, rfl, a4, _, rfl, s3.seq hs4, ?_⟩
      clear ft nt st
      have hi8 := pok.l
      have lsel := selP_len (g := c.2.2.2) (z := c.1) (ps := ps.take i) 0 (fun p hp => (pok.e p (List.mem_of_mem_take hp)).1)
      have ltk : (ps.take i).length ≤ 8 := by rw [List.length_take]; omega
      refine for_it (walk_enum (xs := us4)) (fun j σ Hx => ∃ (v7 v8 : Option V) (us : List V), σ = [some (.ref p), some (.ref P), some (.str c.1), some (.int c.2.2.2), some (.ref R), some (.int (i : Nat)), some (.ref a4), v7, v8, v9] ∧ Same H Hx ∧ Hx R = some (.lst us) ∧ DpAll K (off Hx [R]) us ((selP c.2.2.2 c.1 (ps.take i) 0 ++ selT c.2.2.2 c.1 i (ts.take j) 0).map o5D)) ⟨_, _, us, rfl, s3, hR, by rw [show selT c.2.2.2 c.1 i (ts.take 0) 0 = [] from rfl, List.append_nil]; exact du⟩ (fun j σ Hx _ h => by obtain ⟨_, _, _, _, h, _⟩ := h; exact h.seq hs4) ?_ ?_
      · clear hR du s3
        rintro j x σ H5 H6 hj ⟨v7, v8, us, rfl, s3, hR, du⟩ ⟨t2, y1, y2, rfl, nt, rfl, g1, g2⟩
        cases g1
        replace g2 : us4[j]? = some y2 := g2
        obtain ⟨tr, gtr, dtr⟩ := dpAll_map_at da4 g2
        obtain ⟨rr, er, hrr⟩ := tr_dp dtr
        subst er
        have st := same_upd (o := .tup [.int (j : Nat), .ref rr]) nt
        have ft : upd H5 t2 (.tup [.int (j : Nat), .ref rr]) t2 = _ := upd_same
        have hR := st _ _ hR
        have du := dpAll_same (sm_put (S := [R]) (o := .tup [.int (j : Nat), .ref rr]) nt) du
        have s3 := s3.trans st
        generalize upd H5 t2 (.tup [.int (j : Nat), .ref rr]) = H6 at ft hR du s3 ⊢
        have lus : us.length ≤ 90 := by
          rw [dpAll_map_len du, List.length_append]
          have h1 := selT_len c.2.2.2 c.1 i (ts.take j) 0
          have h2 : (ts.take j).length ≤ 9 := by rw [List.length_take]; have := tsk.1; omega
          omega
        refine ⟨t2, _, rfl, .inl (.inl ft), rfl, _, _, rfl, _, _, rfl, rfl, ?_⟩
        refine ⟨_, rfl, .inl ⟨rfl, _, SqL.of hR⟩, _, rfl, _, rfl, (by show 2 ≤ sizeLine; decide), fun t1 nt1 => ?_⟩
        have f1 : upd H6 t1 (.tup [.int (i : Nat), .int (j : Nat)]) t1 = _ := upd_same
        have hR := same_upd (o := .tup [.int (i : Nat), .int (j : Nat)]) nt1 _ _ hR
        have du := dpAll_same (sm_put (S := [R]) (o := .tup [.int (i : Nat), .int (j : Nat)]) nt1) du
        have s3 := s3.trans (same_upd (o := .tup [.int (i : Nat), .int (j : Nat)]) nt1)
        generalize upd H6 t1 (.tup [.int (i : Nat), .int (j : Nat)]) = H7 at f1 hR du s3 ⊢
        refine ⟨_, rfl, 2, rfl, rr, _, rfl, same_tup s3 hrr, (fun h => absurd h.1 (by rw [show (2 : Int) = ((2 : Nat) : Int) from rfl, HT.sIx_nat]; exact (by decide : ¬ min 2 4 = 0))), fun _ t3 nt3 => ?_⟩
        rw [show cutV [V.int tr.1, .str tr.2.1, .int tr.2.2.1, .int tr.2.2.2] (some 2) none = [.int tr.2.2.1, .int tr.2.2.2] from rfl]
        have f3 : upd H7 t3 (.tup [.int tr.2.2.1, .int tr.2.2.2]) t3 = _ := upd_same
        have f1 := same_upd (o := .tup [.int tr.2.2.1, .int tr.2.2.2]) nt3 _ _ f1
        have hR := same_upd (o := .tup [.int tr.2.2.1, .int tr.2.2.2]) nt3 _ _ hR
        have du := dpAll_same (sm_put (S := [R]) (o := .tup [.int tr.2.2.1, .int tr.2.2.2]) nt3) du
        have s3 := s3.trans (same_upd (o := .tup [.int tr.2.2.1, .int tr.2.2.2]) nt3)
        generalize upd H7 t3 (.tup [.int tr.2.2.1, .int tr.2.2.2]) = H8 at f1 f3 hR du s3 ⊢
        refine ⟨t1, t3, _, _, rfl, rfl, .inl (.inl f1), .inl (.inl f3), (by show 4 ≤ sizeLine; decide), (fun h => by cases h), (fun _ h => by cases h), fun _ _ t4 nt4 => ?_⟩
        show tCons _ _ _ (upd H8 t4 (.tup [.int (i : Nat), .int (j : Nat), .int tr.2.2.1, .int tr.2.2.2])) _
        have adv : ∀ {Hx : Hp} {pp : Addr} {o : HO}, Hx pp = none → (Hx R = some (.lst us) ∧ DpAll K (off Hx [R]) us ((selP c.2.2.2 c.1 (ps.take i) 0 ++ selT c.2.2.2 c.1 i (ts.take j) 0).map o5D) ∧ Same H Hx) → ((upd Hx pp o) R = some (.lst us) ∧ DpAll K (off (upd Hx pp o) [R]) us ((selP c.2.2.2 c.1 (ps.take i) 0 ++ selT c.2.2.2 c.1 i (ts.take j) 0).map o5D) ∧ Same H (upd Hx pp o)) :=
          fun n h => ⟨same_upd n _ _ h.1, dpAll_same (sm_put n) h.2.1, h.2.2.trans (same_upd n)⟩
        have A := adv (o := .tup [.int (i : Nat), .int (j : Nat), .int tr.2.2.1, .int tr.2.2.2]) nt4 ⟨hR, du, s3⟩
        have f4 : upd H8 t4 (.tup [.int (i : Nat), .int (j : Nat), .int tr.2.2.1, .int tr.2.2.2]) t4 = _ := upd_same
        generalize upd H8 t4 (.tup [.int (i : Nat), .int (j : Nat), .int tr.2.2.1, .int tr.2.2.2]) = H9 at A f4 ⊢
        clear hR du f1 f3
        refine ⟨_, rfl, (by show 1 ≤ sizeLine; decide), fun t5 nt5 => ?_⟩
        have A := adv (o := .tup [.int c.2.2.2]) nt5 A
        have f5 : upd H9 t5 (.tup [.int c.2.2.2]) t5 = _ := upd_same
        have f4 := same_upd (o := .tup [.int c.2.2.2]) nt5 _ _ f4
        generalize upd H9 t5 (.tup [.int c.2.2.2]) = H10 at A f4 f5 ⊢
        refine ⟨t4, t5, _, _, rfl, rfl, .inl (.inl f4), .inl (.inl f5), (by show 5 ≤ sizeLine; decide), (fun h => by cases h), (fun _ h => by cases h), fun _ _ t6 nt6 => ?_⟩
        show tNil _ (upd H10 t6 (.tup [.int (i : Nat), .int (j : Nat), .int tr.2.2.1, .int tr.2.2.2, .int c.2.2.2])) _
        have f6 := off_new (o := .tup [.int (i : Nat), .int (j : Nat), .int tr.2.2.1, .int tr.2.2.2, .int c.2.2.2]) (lvR A.1) nt6
        have A := adv (o := .tup [.int (i : Nat), .int (j : Nat), .int tr.2.2.1, .int tr.2.2.2, .int c.2.2.2]) nt6 A
        generalize upd H10 t6 (.tup [.int (i : Nat), .int (j : Nat), .int tr.2.2.1, .int tr.2.2.2, .int c.2.2.2]) = H11 at A f6 ⊢
        refine ⟨(by show 1 ≤ sizeLine; decide), fun t7 nt7 => ?_⟩
        have f6 := sm_put (S := [R]) (o := .lst [.ref t6]) nt7 _ _ f6
        have f7 : upd H11 t7 (.lst [.ref t6]) t7 = _ := upd_same
        have A := adv (o := .lst [.ref t6]) nt7 A
        generalize upd H11 t7 (.lst [.ref t6]) = H12 at A f6 f7 ⊢
        have hk : decide (V.str tr.2.1 = V.str c.1) = decide (tr.2.1 = c.1) := decS
        refine ⟨_, rfl, rr, _, 1, _, rfl, rfl, same_tup A.2.2 hrr, rfl, _, rfl, rfl, .inr ⟨_, rfl, ?_⟩⟩
        rw [hk]
        obtain ⟨kk, ekk, k0, k1⟩ : ∃ kk : Int, (if decide (tr.2.1 = c.1) = true then (1 : Int) else 0) = kk ∧ 0 ≤ kk ∧ kk ≤ 1 := ⟨_, rfl, by split <;> decide, by split <;> decide⟩
        have hrep : (List.replicate kk.toNat [V.ref t6]).flatten.length ≤ 1 := by
          have h : kk = 0 ∨ kk = 1 := by omega
          rcases h with rfl | rfl
          · exact Nat.zero_le _
          · exact Nat.le_refl _
        rw [ekk]
        refine ⟨t7, kk, _, rfl, rfl, f7, (by omega), (by omega), (by show 1 * kk.toNat ≤ sizeLine; rw [sizeLine_eq]; omega), fun t8 nt8 => ?_⟩
        have f6 := sm_put (S := [R]) (o := .lst (List.replicate kk.toNat [V.ref t6]).flatten) nt8 _ _ f6
        have f8 : upd H12 t8 (.lst (List.replicate kk.toNat [V.ref t6]).flatten) t8 = _ := upd_same
        have A := adv (o := .lst (List.replicate kk.toNat [V.ref t6]).flatten) nt8 A
        generalize upd H12 t8 (.lst (List.replicate kk.toNat [V.ref t6]).flatten) = H13 at A f6 f8 ⊢
        refine ⟨R, t8, _, _, rfl, rfl, A.1, f8, (by rw [sizeLine_eq]; omega), ?_⟩
        have sw : Sm [R] H13 (upd H13 R (.lst (us ++ (List.replicate kk.toNat [V.ref t6]).flatten))) := sm_wr List.mem_cons_self
        refine ⟨_, _, _, rfl, same_put A.2.2 nR0, upd_same, ?_⟩
        rw [selT_take gtr, ← List.append_assoc, List.map_append]
        refine dpAll_same sw (dpAll_app' A.2.1 ?_)
        by_cases he : tr.2.1 = c.1
        · rw [decide_eq_true he, if_pos rfl] at ekk
          rw [← ekk, if_pos he]
          exact .cons (.tup (.inl (.inl f6)) (.cons (.int _) (.cons (.int _) (.cons (.int _) (.cons (.int _) (.cons (.int _) .nil)))))) .nil
        · rw [decide_eq_false he, if_neg Bool.false_ne_true] at ekk
          rw [← ekk, if_neg he]
          exact .nil
      · rintro σ H5 ⟨v7, v8, us, rfl, s3, hR, du⟩
        rw [List.take_of_length_le (l := ts) (by omega)] at du
        exact ⟨_, _, _, _, _, us, rfl, s3, hR, by rw [selP_take gts]; exact du⟩
    · rintro σ H3 ⟨v5, v6, v7, v8, v9, us, rfl, s3, hR, du⟩
      rw [lxs, List.take_of_length_le (Nat.le_refl _)] at du
      exact ⟨_, rfl, q H3 R us s3 nR0 hR (dpAll_same off_sub du)⟩

end
end Pot

namespace Pot
open PySem PySem.Spec PyProof.Rows L2
section
variable {P : Program} {w : World} {K : PySem.W.Frag} {mg : Str → Option Value} {base : Heap}
/-! ### how many teams want a colour at an hour -/
def wantB (z : Str) (h : Int) (t : Tm) : Bool := decide (t.2.1 = z) && (decide (t.2.2.1 ≤ h) && decide (h < t.2.2.2))
def cw (z : Str) (l : List Tm) (h : Nat) : Nat := (l.filter (wantB z (h : Int))).length
theorem cw_take {z : Str} {l : List Tm} {i : Nat} {t : Tm} {h : Nat} (g : l[i]? = some t) : cw z (l.take (i + 1)) h = cw z (l.take i) h + (if wantB z (h : Int) t = true then 1 else 0) := by
  unfold cw
  rw [List.take_add_one, g, Option.toList_some, List.filter_append, List.length_append]
  congr 1
  by_cases hb : wantB z (h : Int) t = true
  · rw [if_pos hb]; simp [hb]
  · rw [if_neg hb]; simp [hb]
theorem cw_le (z : Str) (l : List Tm) (h : Nat) : cw z l h ≤ l.length := List.length_filter_le ..
abbrev s_wanting : Stmt := topS 7
def n_wanting : List Str := ["teams", "colour", "hour", "team", "wanted", "first", "last"]
theorem sc_wanting : FnScope n_wanting ["teams", "colour", "hour"] (defScope s_wanting) := ⟨rfl, rfl, rfl, by decide +kernel, rfl, by decide +kernel, by decide +kernel⟩
def spWanting (K : PySem.W.Frag) : Sp := fun vs H Q _ => ∃ (A : Addr) (xs : List V) (tms : List Tm) (z : Str) (h : Nat), vs = [.ref A, .str z, .int (h : Nat)] ∧ SqL K H A xs ∧ DpAll K H xs (tms.map tmD) ∧ tms.length ≤ 20 ∧
  ∀ (H' : Hp) (L : Addr) (ys : List Str), Same H H' → H L = none → H' L = some (.lst (ys.map V.str)) → ys.length = cw z tms h → Q (.ref L) H'
set_option maxHeartbeats 2000000 in
theorem ok_wanting {f : Addr} {fd : FuncData} {k : Nat} (F : Fun K "wanting" "wanting" s_wanting f fd) (T : Txt mg) : FnOk P w K mg base CX0 (k + 1) f fd ["teams", "colour", "hour"] (spWanting K) := by
  refine F.ok sc_wanting (fun vs H Q E h => ?_) (fun cdv A outer s H vs Q E hr h => ?_)
  · obtain ⟨A, xs, tms, z, h, rfl, _⟩ := h
    rfl
  · obtain ⟨B, xs, tms, z, h, rfl, hs, da, lt, q⟩ := h
    have nd := sc_wanting.nd
    /- 0 teams, 1 colour, 2 hour, 3 team, 4 wanted, 5 first, 6 last -/
    refine ⟨_, (pss_one (ps_ret (pe_callB (kc_sortedS (K := K)) (by rfl) T.sorted (by decide +kernel) (pa_cons (pe_lc (own := [("team", 3), ("wanted", 4), ("first", 5), ("last", 6)]) rfl nd (ki_list (K := K) (pv 0)) (blkOk_by (N := n_wanting) (sc := defScope s_wanting) (by decide +kernel)) (fun _ _ _ _ _ => (kg_tup (K := K) (n := 4) (pgs_cons (pg_name (i := 3) nd rfl (.inl rfl)) (pgs_cons (pg_name (i := 4) nd rfl (.inl rfl)) (pgs_cons (pg_name (i := 5) nd rfl (.inl rfl)) (pgs_cons (pg_name (i := 6) nd rfl (.inl rfl)) pgs_nil)))))) (fun _ _ _ _ _ => (pts_one ((pw_and (pt_cmpR op_eq (pv 4) (pv 1) (nomark _)) (pw_and1 (pt_chain op_le op_lt (pv 5) (pv 2) (pv 6))))).pt)) (fun _ _ _ _ _ => (pv 3))) pa_nil)))), ?_⟩
    have lxs : xs.length = tms.length := dpAll_map_len da
    refine ⟨_, rfl, B, rfl, ⟨_, hs⟩, fun D nD => ?_⟩
    refine lc_it (walk_list (xs := xs)) (PvL H D fun i => ((tms.take i).filter (wantB z (h : Int))).map fun t => V.str t.1) (pv_start nD rfl) (fun i H2 _ p => p.1.seq hs) ?_ ?_
    · rintro i x H2 H3 hi pv ⟨rfl, gx⟩
      obtain ⟨t, gt, dt⟩ := dpAll_map_at da gx
      obtain ⟨a, rfl, ha⟩ := tm_dp dt
      have ha3 := same_tup pv.1 ha
      have small : (((tms.take i).filter (wantB z (h : Int))).map fun t => V.str t.1).length < sizeLine := by
        rw [List.length_map]
        exact Nat.lt_of_le_of_lt (Nat.le_trans (List.length_filter_le ..) (Nat.le_trans (List.length_take_le' ..) lt)) (by decide)
      have yes : wantB z (h : Int) t = true → ((tms.take (i + 1)).filter (wantB z (h : Int))).map (fun t => V.str t.1) = ((tms.take i).filter (wantB z (h : Int))).map (fun t => V.str t.1) ++ [V.str t.1] := fun hb => by
        rw [List.take_add_one, gt, Option.toList_some, List.filter_append, List.map_append]; simp [hb]
      have no : wantB z (h : Int) t = false → ((tms.take (i + 1)).filter (wantB z (h : Int))).map (fun t => V.str t.1) = ((tms.take i).filter (wantB z (h : Int))).map (fun t => V.str t.1) := fun hb => by
        rw [List.take_add_one, gt, Option.toList_some, List.filter_append, List.map_append]; simp [hb]
      refine ⟨a, _, rfl, ha3, rfl, _, _, rfl, _, _, rfl, _, _, rfl, _, _, rfl, rfl, rfl, ?_⟩
      have est : (((((List.set (wipe (L2.start n_wanting [V.ref B, V.str z, V.int (h : Nat)]) [3, 4, 5, 6]) 3 (some (V.str t.1))).set 4 (some (V.str t.2.1))).set 5 (some (V.int t.2.2.1))).set 6 (some (V.int t.2.2.2))) : L2.St) = [some (V.ref B), some (V.str z), some (V.int (h : Nat)), some (V.str t.1), some (V.str t.2.1), some (V.int t.2.2.1), some (V.int t.2.2.2)] := rfl
      have evs : List.map (fun x : Str × Nat => x.snd) [(Str.ofString "team", 3), (Str.ofString "wanted", 4), (Str.ofString "first", 5), (Str.ofString "last", 6)] = [3, 4, 5, 6] := rfl
      rw [evs, est]
      refine ⟨_, rfl, _, rfl, rfl, _, rfl, ?_⟩
      rw [decS]
      refine ite2 (fun h1 => ?_) (fun h1 => ?_)
      · refine ⟨_, rfl, _, rfl, _, _, rfl, rfl, _, rfl, ite2 (fun h2 => ?_) (fun h2 => ?_)⟩
        · refine ⟨_, rfl, _, _, rfl, rfl, _, rfl, ite2 (fun h3 => ?_) (fun h3 => ?_)⟩
          · exact ⟨_, rfl, pv_put nD pv (Same.refl _) (yes (by unfold wantB; rw [h1, h2, h3]; rfl)) small⟩
          · exact pv_skip pv (Same.refl _) (no (by unfold wantB; rw [h1, h2, Bool.not_eq_true _ |>.mp h3]; rfl))
        · exact ⟨_, rfl, iteF (pv_skip pv (Same.refl _) (no (by unfold wantB; rw [h1, Bool.not_eq_true _ |>.mp h2]; rfl)))⟩
      · exact pv_skip pv (Same.refl _) (no (by unfold wantB; rw [Bool.not_eq_true _ |>.mp h1]; rfl))
    · intro H2 pv
      obtain ⟨s2, hD⟩ := pv_end pv (show _ = (tms.filter (wantB z (h : Int))).map fun t => V.str t.1 by rw [lxs, List.take_length])
      have e2 : (tms.filter (wantB z (h : Int))).map (fun t => V.str t.1) = ((tms.filter (wantB z (h : Int))).map fun t => t.1).map V.str := by rw [List.map_map]; rfl
      rw [e2] at hD
      have l2 : ((tms.filter (wantB z (h : Int))).map fun t => t.1).length < 64 := by
        rw [List.length_map]
        exact Nat.lt_of_le_of_lt (Nat.le_trans (List.length_filter_le ..) lt) (by decide)
      refine ⟨D, _, rfl, SqL.of hD, l2, fun ys L pm so nL => ?_⟩
      exact q _ L ys (s2.trans (same_upd nL)) (s2.free nL) upd_same (by rw [pm.length_eq, List.length_map]; rfl)
def cwL (z : Str) (l : List Tm) (n : Nat) : List Int := (List.range n).map fun h => ((cw z l h : Nat) : Int)
def spWants (K : PySem.W.Frag) : Sp := fun vs H Q _ => ∃ (A : Addr) (xs : List V) (tms : List Tm) (z : Str) (n : Nat), vs = [.ref A, .str z, .int (n : Nat)] ∧ SqL K H A xs ∧ DpAll K H xs (tms.map tmD) ∧ tms.length ≤ 20 ∧ (∀ t ∈ tms, TmOk t) ∧ n ≤ 60 ∧
  ∀ (H' : Hp) (L : Addr), Same H H' → H L = none → H' L = some (.lst ((cwL z tms n).map V.int)) → Q (.ref L) H'
abbrev s_wants_of : Stmt := topS 6
def n_wants_of : List Str := ["teams", "colour", "hours", "hour"]
theorem sc_wants_of : FnScope n_wants_of ["teams", "colour", "hours"] (defScope s_wants_of) := ⟨rfl, rfl, rfl, by decide +kernel, rfl, by decide +kernel, by decide +kernel⟩
theorem ok_wantsof {f : Addr} {fd : FuncData} {k : Nat} (F : FunV K "wants_of" s_wants_of [.int 60] f fd) (T : Txt mg) (c_wanting : Cl P w K mg base (k + 1) "wanting" (spWanting K)) : FnOk P w K mg base CX0 (k + 2) f fd ["teams", "colour", "hours"] (spWants K) := by
  refine okD F sc_wants_of (fun vs H Q E h => ?_) (fun cdv A outer s H vs Q E hr h => ?_)
  · obtain ⟨A, xs, tms, z, n, rfl, _⟩ := h
    rfl
  · obtain ⟨B, xs, tms, z, n, rfl, hs, da, lt, tok, n60, q⟩ := h
    have nd := sc_wants_of.nd
    /- 0 teams, 1 colour, 2 hours, 3 hour -/
    refine ⟨_, (pss_one (ps_ret (pe_lc (own := [("hour", 3)]) rfl nd (pi_range1 (by rfl) T.range (pa_cons (pv 2) pa_nil)) (blkOk_by (N := n_wants_of) (sc := defScope s_wants_of) (by decide +kernel)) (fun _ _ _ _ _ => (pg_name (i := 3) nd rfl (.inl rfl))) (fun _ _ _ _ _ => pts_nil) (fun _ _ _ _ _ => (pe_callB (kc_len (K := K)) (by rfl) T.len PySem.boot_len (pa_cons (pe_cl c_wanting hr (by omega) (by rfl) (pa_cons (pv 0) (pa_cons (pv 1) (pa_cons (pv 3) pa_nil)))) pa_nil)))))), ?_⟩
    refine ⟨_, rfl, _, rfl, (by omega), (by omega), fun D nD => ?_⟩
    refine lc_it walk_range (PvL H D fun i => ((List.range i).map fun h => ((cw z tms h : Nat) : Int)).map V.int) (pv_start nD rfl) (fun _ _ _ _ => trivial) ?_ ?_
    · rintro i x H2 H3 hi pv ⟨rfl, rfl⟩
      refine ⟨rfl, tYes_at ?_⟩
      rw [if_pos rfl]
      have hi2 : i < n := by omega
      refine ⟨_, rfl, _, rfl, _, rfl, B, xs, tms, z, i, (by show [V.ref B, V.str z, V.int (0 + (i : Int))] = _; rw [Int.zero_add]), pv.1.seq hs, dpAll_same pv.1 da, lt, fun H4 L ys s4 nL hL ly => ?_⟩
      refine ⟨_, _, rfl, .inl ⟨_, SqL.of hL, rfl⟩, ?_⟩
      rw [List.length_map, ly]
      exact pv_put nD pv s4 (by rw [List.range_succ, List.map_append, List.map_append]; rfl) (by rw [List.length_map, List.length_map, List.length_range, sizeLine_eq]; omega)
    · intro H2 pv
      obtain ⟨s2, hD⟩ := pv_end pv rfl
      rw [Int.toNat_natCast] at hD
      exact q _ D s2 nD hD
abbrev s__law_wants : Stmt := topS 19
def n__law_wants : List Str := ["_law_teams", "_law_colour", "_law_hours", "_law_found", "_law_team_here", "_law_own", "_law_first", "_law_last", "_law_hour"]
theorem sc__law_wants : FnScope n__law_wants ["_law_teams", "_law_colour", "_law_hours"] (defScope s__law_wants) := ⟨rfl, rfl, rfl, by decide +kernel, rfl, by decide +kernel, by decide +kernel⟩
/-- the counts while a team's hours are gone through -/
def cwJ (z : Str) (l : List Tm) (t : Tm) (j n : Nat) : List Int := (List.range n).map fun h => ((cw z l h : Nat) : Int) + (if t.2.1 = z ∧ t.2.2.1 ≤ (h : Int) ∧ (h : Int) < t.2.2.1 + (j : Nat) then 1 else 0)
theorem cwJ_zero (z : Str) (l : List Tm) (t : Tm) (n : Nat) : cwJ z l t 0 n = cwL z l n := by
  unfold cwJ cwL
  refine List.map_congr_left fun h _ => ?_
  rw [if_neg (by omega), Int.add_zero]
theorem cwJ_end {z : Str} {l : List Tm} {i : Nat} {t : Tm} {n : Nat} (g : l[i]? = some t) (h0 : 0 ≤ t.2.2.1) : cwJ z (l.take i) t ((if (n : Int) < t.2.2.2 then (n : Int) else t.2.2.2) - t.2.2.1).toNat n = cwL z (l.take (i + 1)) n := by
  unfold cwJ cwL
  refine List.map_congr_left fun h hh => ?_
  have hn := List.mem_range.mp hh
  rw [cw_take g, Int.natCast_add]
  congr 1
  have e : wantB z (h : Int) t = true ↔ (t.2.1 = z ∧ t.2.2.1 ≤ (h : Int) ∧ (h : Int) < t.2.2.1 + (((if (n : Int) < t.2.2.2 then (n : Int) else t.2.2.2) - t.2.2.1).toNat : Nat)) := by
    unfold wantB
    rw [Bool.and_eq_true, Bool.and_eq_true, decide_eq_true_eq, decide_eq_true_eq, decide_eq_true_eq]
    constructor
    · rintro ⟨a, b, c⟩
      refine ⟨a, b, ?_⟩
      split <;> omega
    · rintro ⟨a, b, c⟩
      refine ⟨a, b, ?_⟩
      split at c <;> omega
  by_cases hb : wantB z (h : Int) t = true
  · rw [if_pos hb, if_pos (e.mp hb)]; rfl
  · rw [if_neg hb, if_neg (fun x => hb (e.mpr x))]; rfl
theorem cwJ_len (z : Str) (l : List Tm) (t : Tm) (j n : Nat) : (cwJ z l t j n).length = n := by unfold cwJ; rw [List.length_map, List.length_range]
theorem cwJ_at {z : Str} {l : List Tm} {t : Tm} {j n m : Nat} (hm : m < n) : (cwJ z l t j n)[m]? = some (((cw z l m : Nat) : Int) + (if t.2.1 = z ∧ t.2.2.1 ≤ (m : Int) ∧ (m : Int) < t.2.2.1 + (j : Nat) then 1 else 0)) := by
  unfold cwJ
  rw [List.getElem?_map, List.getElem?_range hm]; rfl
theorem cwJ_set {z : Str} {l : List Tm} {t : Tm} {j n m : Nat} (hm : m < n) (em : (m : Int) = t.2.2.1 + (j : Nat)) : (cwJ z l t j n).set m (((cw z l m : Nat) : Int) + (if t.2.1 = z ∧ t.2.2.1 ≤ (m : Int) ∧ (m : Int) < t.2.2.1 + (j : Nat) then 1 else 0) + (if decide (t.2.1 = z) = true then 1 else 0)) = cwJ z l t (j + 1) n := by
  refine List.ext_getElem? fun p => ?_
  rcases Nat.lt_or_ge p n with hp | hp
  · rw [cwJ_at hp]
    by_cases e : m = p
    · subst e
      rw [List.getElem?_set_self (by rw [cwJ_len]; exact hp), if_neg (by omega)]
      by_cases hz : t.2.1 = z
      · rw [if_pos (decide_eq_true hz), if_pos ⟨hz, by omega, by omega⟩, Int.add_zero]
      · rw [if_neg (fun x => hz (of_decide_eq_true x)), if_neg (fun x => hz x.1), Int.add_zero]
    · rw [List.getElem?_set_ne e, cwJ_at hp]
      congr 2
      by_cases hz : t.2.1 = z ∧ t.2.2.1 ≤ (p : Int) ∧ (p : Int) < t.2.2.1 + (j : Nat)
      · rw [if_pos hz, if_pos ⟨hz.1, hz.2.1, by have := hz.2.2; omega⟩]
      · rw [if_neg hz, if_neg (fun x => hz ⟨x.1, x.2.1, by have := x.2.2; omega⟩)]
  · rw [List.getElem?_eq_none (by rw [List.length_set, cwJ_len]; exact hp), List.getElem?_eq_none (by rw [cwJ_len]; exact hp)]
theorem cwL_nil (z : Str) (n : Nat) : (List.replicate n [V.int 0]).flatten = (cwL z [] n).map V.int := by
  refine List.ext_getElem? fun p => ?_
  have l1 : (List.replicate n [V.int 0]).flatten = List.replicate n (V.int 0) := by
    induction n with
    | zero => rfl
    | succ n ih => rw [List.replicate_succ, List.flatten_cons, ih]; rfl
  rw [l1]
  unfold cwL
  rw [List.map_map, List.getElem?_map]
  rcases Nat.lt_or_ge p n with h | h
  · rw [List.getElem?_range h, List.getElem?_replicate, if_pos h]; rfl
  · rw [List.getElem?_replicate, if_neg (by omega), List.getElem?_eq_none (l := List.range n) (by rw [List.length_range]; exact h)]; rfl
set_option maxHeartbeats 1000000 in
theorem ok_lwants {f : Addr} {fd : FuncData} {k : Nat} (F : Fun K "_law_wants" "_law_wants" s__law_wants f fd) (T : Txt mg) : FnOk P w K mg base CX0 (k + 1) f fd ["_law_teams", "_law_colour", "_law_hours"] (spWants K) := by
  refine F.ok sc__law_wants (fun vs H Q E h => ?_) (fun cdv A outer s H vs Q E hr h => ?_)
  · obtain ⟨A, xs, tms, z, n, rfl, _⟩ := h
    rfl
  · obtain ⟨B, xs, tms, z, n, rfl, hs, da, lt, tok, n60, q⟩ := h
    have nd := sc__law_wants.nd
    /- 0 _law_teams, 1 _law_colour, 2 _law_hours, 3 _law_found, 4 _law_team_here, 5 _law_own, 6 _law_first, 7 _law_last, 8 _law_hour -/
    refine ⟨_, (pss_cons (ps_set (i := 3) nd rfl (.inl rfl) (pe_op op_rep (pe_lst (pa_cons pe_int pa_nil)) (pv 2)))
      (pss_cons (ps_for PassesOwn.never rfl (ki_list (K := K) (pv 0)) (kg_tup (K := K) (n := 4) (pgs_cons (pg_name (i := 4) nd rfl (.inl rfl)) (pgs_cons (pg_name (i := 5) nd rfl (.inl rfl)) (pgs_cons (pg_name (i := 6) nd rfl (.inl rfl)) (pgs_cons (pg_name (i := 7) nd rfl (.inl rfl)) pgs_nil)))))
          (pss_one (ps_for PassesOwn.never rfl (pi_range2 (by rfl) T.range (pa_cons (pv 6) (pa_cons (pe_callB (call_min2 rfl) (by rfl) T.min (by decide +kernel) (pa_cons (pv 7) (pa_cons (pv 2) pa_nil))) pa_nil))) (pg_name (i := 8) nd rfl (.inl rfl))
              (pss_one (ps_asg (pe_op op_add (pe_ix (kx_list (K := K)) (pv 3) (pv 8) (fun _ _ => rfl)) (pe_callTy call_int1 (by rfl) T.int (by decide +kernel) (pa_cons (pe_cmpR op_eq (pv 5) (pv 1) (nomark _)) pa_nil))) (pg_sub (pv 3) (pv 8) set_list))))))
      (pss_one (ps_ret (pv 3))))), ?_⟩
    have lxs : xs.length = tms.length := dpAll_map_len da
    refine ⟨(by show 1 ≤ sizeLine; decide), fun p0 np0 => ⟨_, rfl, p0, (n : Int), _, rfl, rfl, upd_same, (by omega), (by omega), (by show 1 * (n : Int).toNat ≤ sizeLine; rw [sizeLine_eq]; omega), fun L nL => ?_⟩⟩
    rw [Int.toNat_natCast, cwL_nil z n]
    have s1 : Same H (upd (upd H p0 (.lst [.int 0])) L (.lst ((cwL z [] n).map V.int))) := (same_upd np0).trans (same_upd nL)
    have nL0 : H L = none := (same_upd np0).free nL
    have hL : upd (upd H p0 (.lst [.int 0])) L (.lst ((cwL z [] n).map V.int)) L = some (.lst ((cwL z [] n).map V.int)) := upd_same
    generalize upd (upd H p0 (.lst [.int 0])) L (.lst ((cwL z [] n).map V.int)) = H1 at s1 hL ⊢
    refine ⟨_, rfl, B, rfl, ⟨_, s1.seq hs⟩, ?_⟩
    refine for_it (walk_list (xs := xs)) (fun i σ Hx => ∃ (v4 v5 v6 v7 v8 : Option V), σ = [some (.ref B), some (.str z), some (.int (n : Nat)), some (.ref L), v4, v5, v6, v7, v8] ∧ Same H Hx ∧ Hx L = some (.lst ((cwL z (tms.take i) n).map V.int))) ⟨_, _, _, _, _, rfl, s1, hL⟩ (fun i σ Hx _ h => by obtain ⟨_, _, _, _, _, _, h, _⟩ := h; exact h.seq hs) ?_ ?_
    · rintro i x σ H2 H3 hi ⟨v4, v5, v6, v7, v8, rfl, s2, hL⟩ ⟨rfl, gx⟩
      obtain ⟨t, gt, dt⟩ := dpAll_map_at da gx
      obtain ⟨a, rfl, ha⟩ := tm_dp dt
      have tk := tok t (List.mem_of_getElem? gt)
      obtain ⟨t1, t2⟩ := tk.a
      obtain ⟨t3, t4⟩ := tk.b
      refine ⟨a, _, rfl, same_tup s2 ha, rfl, _, _, rfl, _, _, rfl, _, _, rfl, _, _, rfl, rfl, ?_⟩
      refine ⟨_, rfl, _, rfl, _, rfl, _, _, rfl, _, _, rfl, ⟨(by omega), (by omega), (by split <;> omega), (by split <;> omega)⟩, ?_⟩
      obtain ⟨nn, enn⟩ : ∃ nn, nn = ((if (n : Int) < t.2.2.2 then (n : Int) else t.2.2.2) - t.2.2.1).toNat := ⟨_, rfl⟩
      have nn1 : ∀ j, j < nn → t.2.2.1 + (j : Int) < (n : Int) := fun j hj => by
        rw [enn] at hj
        split at hj <;> omega
      have hend := cwJ_end (z := z) (n := n) gt t1
      rw [← enn] at hend ⊢
      refine for_it walk_range (fun j σ Hx => ∃ v8, σ = [some (.ref B), some (.str z), some (.int (n : Nat)), some (.ref L), some (.str t.1), some (.str t.2.1), some (.int t.2.2.1), some (.int t.2.2.2), v8] ∧ Same H Hx ∧ Hx L = some (.lst ((cwJ z (tms.take i) t j n).map V.int))) ⟨_, rfl, s2, by rw [cwJ_zero]; exact hL⟩ (fun _ _ _ _ _ => trivial) ?_ ?_
      · clear hL s2
        rintro j x σ H4 H5 hj ⟨v8, rfl, s2, hL⟩ ⟨rfl, rfl⟩
        have hjn := nn1 j hj
        obtain ⟨m, em⟩ : ∃ m : Nat, (m : Int) = t.2.2.1 + (j : Int) := ⟨(t.2.2.1 + (j : Int)).toNat, by omega⟩
        have hm : m < n := by omega
        have ha := cwJ_at (z := z) (l := tms.take i) (t := t) (j := j) hm
        have lm : m < (cwJ z (tms.take i) t j n).length := by rw [cwJ_len]; exact hm
        refine ⟨_, rfl, _, rfl, L, _, _, _, rfl, rfl, SqL.of hL, (by rw [← em]; exact atI_nat (by rw [List.getElem?_map, ha]; rfl)), ?_⟩
        refine ⟨_, rfl, _, rfl, rfl, .inr ⟨_, rfl, _, _, rfl, rfl, ?_⟩⟩
        rw [decS]
        refine ⟨_, rfl, _, rfl, L, _, _, m, rfl, rfl, hL, (by rw [← em, List.length_map]; exact Evl.ixN_nat lm), ?_⟩
        refine ⟨_, rfl, same_put s2 nL0, ?_⟩
        rw [upd_same, ← cwJ_set hm em, List.map_set]
      · rintro σ H4 ⟨v8, rfl, s2, hL⟩
        rw [hend] at hL
        exact ⟨_, _, _, _, _, rfl, s2, hL⟩
    · rintro σ H2 ⟨v4, v5, v6, v7, v8, rfl, s2, hL⟩
      rw [lxs, List.take_of_length_le (Nat.le_refl _)] at hL
      exact ⟨_, rfl, q H2 L s2 nL0 hL⟩

end
end Pot

namespace Pot
open PySem PySem.Spec PyProof.Rows L2
section
variable {P : Program} {w : World} {K : PySem.W.Frag} {mg : Str → Option Value} {base : Heap}
theorem same_new {H H' : Hp} {S : List Addr} {L : Addr} (s : Same H H') (h : H L = none) : Same (off H S) (off H' (L :: S)) := fun x o e => by
  have hx := off_mem e
  rw [off_out hx] at e
  rw [off_out (by simp only [List.mem_cons, not_or]; exact ⟨ne_of_none e h, hx⟩)]
  exact s x o e
theorem kit_lt2 {H : Hp} {x : V} {d : PyData} (h : Dp K H x d) : PySem.W.kitAny K (.type (tyD d)) [.type "list", .type "tuple"] = some (isListD d || isTupD d) := kit_lt h
abbrev s__law_copied : Stmt := topS 20
def n__law_copied : List Str := ["_law_thing", "_law_some", "_law_one"]
theorem sc__law_copied : FnScope n__law_copied ["_law_thing"] (defScope s__law_copied) := ⟨rfl, rfl, rfl, by decide +kernel, rfl, by decide +kernel, by decide +kernel⟩
def spCopied (K : PySem.W.Frag) (k : Nat) : Sp := fun vs H Q _ => ∃ (S : List Addr) (x : V) (d : PyData), vs = [x] ∧ Live S H ∧ Dp K (off H S) x d ∧ d.depth < k ∧ widAll.wid d ≤ 5000 ∧ ∀ H' y, Same H H' → Dp K (off H' S) y d → Q y H'
set_option maxHeartbeats 1000000 in
theorem ok_copied {f : Addr} {fd : FuncData} {k0 : Nat} (F : Fun K "_law_copied" "_law_copied" s__law_copied f fd) (T : Txt mg) (bF : Binds K fd ["_law_thing"] []) (gF : mg "_law_copied" = some (.ref f)) :
    ∀ k : Nat, FnOk P w K mg base CX0 (k0 + k + 1) f fd ["_law_thing"] (spCopied K k) := by
  intro k
  induction k with
  | zero =>
    refine F.ok sc__law_copied (fun vs H Q E h => ?_) (fun cdv A outer s H vs Q E hr h => ?_)
    · obtain ⟨S, x, d, rfl, _⟩ := h
      rfl
    · obtain ⟨S, x, d, rfl, _, _, hk, _⟩ := h
      exact absurd hk (Nat.not_lt_zero _)
  | succ k G =>
    refine F.ok sc__law_copied (fun vs H Q E h => ?_) (fun cdv A outer s H vs Q E hr h => ?_)
    · obtain ⟨S, x, d, rfl, _⟩ := h
      rfl
    · obtain ⟨S, x, d, rfl, lv, dx, hd, hw, q⟩ := h
      have nd := sc__law_copied.nd
      /- 0 _law_thing, 1 _law_some, 2 _law_one -/
      refine ⟨_, (pss_cons (ps_if (pt_val (pe_callB (kc_isiT (K := K)) (by rfl) T.isinstance (by decide +kernel) (pa_cons (pv 0) (pa_cons (pe_tup (pa_cons (pe_bltn (v := .ty "list") (by rfl) T.list (by decide +kernel) rfl) (pa_cons (pe_bltn (v := .ty "tuple") (by rfl) T.tuple (by decide +kernel) rfl) pa_nil))) pa_nil))))
          (pss_cons (ps_setLc (i := 1) (own := [("_law_one", 2)]) rfl nd rfl rfl (sw_true rfl rfl rfl (by decide +kernel)) (ki_anyS (K := K) (pv 0)) (blkOk_by (N := n__law_copied) (sc := defScope s__law_copied) (by decide +kernel)) (fun _ _ _ _ _ => (pg_name (i := 2) nd rfl (.inl rfl))) (fun _ _ _ _ _ => pts_nil) (fun _ _ _ _ _ => (pe_call G hr (by rfl) gF F.kp bF .nil pass0 (pa_cons (pv 2) pa_nil))))
          (pss_one (ps_ret (pe_ifExp (pt_val (pe_callB (kc_isi (K := K)) (by rfl) T.isinstance (by decide +kernel) (pa_cons (pv 0) (pa_cons (pe_bltn (v := .ty "list") (by rfl) T.list (by decide +kernel) rfl) pa_nil)))) (pv 1) (pe_callTy (kc_tuple (K := K)) (by rfl) T.tuple (by decide +kernel) (pa_cons (pv 1) pa_nil))))))
          pss_nil)
      (pss_one (ps_ret (pv 0)))), ?_⟩
      refine ⟨_, rfl, (by show 2 ≤ sizeLine; decide), fun t nt => ?_⟩
      have s1 := same_upd (o := .tup [.ty "list", .ty "tuple"]) nt
      have dx := dp_same (sm_of (S := S) s1) dx
      have lv := lv.same s1
      have ht : upd H t (.tup [.ty "list", .ty "tuple"]) t = some (.tup [.ty "list", .ty "tuple"]) := upd_same
      generalize upd H t (.tup [.ty "list", .ty "tuple"]) = H1 at s1 dx ht lv ⊢
      have dH := dp_off dx
      refine ⟨_, t, _, _, _, _, rfl, ht, .cons (.ty _) (.cons (.ty _) .nil), tyx_dp dH, kit_lt dH, _, rfl, ?_⟩
      have dx0 := dx
      cases dx with
      | @lst a xs ds hl ha =>
        refine iteT (.inl ⟨_, rfl, a, rfl, ⟨_, sq_off hl⟩, fun D nD => ?_⟩)
        refine lc_it (walk_list (xs := xs)) (fun i Hx => Same H1 Hx ∧ ∃ us, Hx D = some (.lst us) ∧ DpAll K (off Hx (D :: S)) us (ds.take i)) ⟨same_upd nD, [], upd_same, .nil⟩ (fun i H2 _ h => h.1.seq (sq_off hl)) ?_ ?_
        · skip
          have lx := dpAll_len ha
          have l5 : ds.length ≤ 5000 := Nat.le_trans (Nat.le_max_left _ _) hw
          rintro i y H3 H4 hi ⟨s3, us, hD, du⟩ ⟨rfl, gy⟩
          obtain ⟨d1, g1, p1⟩ := dpAll_at ha gy
          refine ⟨rfl, tYes_at ?_⟩
          rw [if_pos rfl]
          have lv3 : Live (D :: S) H4 := (lv.same s3).cons hD
          have lus : us.length ≤ 5000 := by
            rw [dpAll_len du, List.length_take]; omega
          refine ⟨_, rfl, D :: S, y, d1, rfl, lv3, dp_same (same_new s3 nD) p1, ?_, ?_, fun H5 z s5 dz => ?_⟩
          · have h1 := depth_at g1
            have h2 : PyData.depthAll ds + 1 < k + 1 := hd
            omega
          · exact Nat.le_trans (wid_at g1) (Nat.le_trans (Nat.le_max_right _ _) hw)
          · have sw : Sm (D :: S) H5 (upd H5 D (.lst (us ++ [z]))) := sm_wr List.mem_cons_self
            refine ⟨us, s5 _ _ hD, Nat.lt_of_le_of_lt lus (by decide), same_put (s3.trans s5) nD, us ++ [z], upd_same, ?_⟩
            rw [List.take_add_one, g1]
            exact dpAll_same sw (dpAll_app' (dpAll_same (sm_of s5) du) (.cons dz .nil))
        · rintro H3 ⟨s3, us, hD, du⟩
          rw [dpAll_len ha, List.take_of_length_le (Nat.le_refl _)] at du
          have dH3 := dp_same s3 dH
          refine ⟨_, rfl, _, .ty _, _, _, isListD _, rfl, .ty _, tyx_dp dH3, kit_list dH3, _, rfl, iteT ⟨_, rfl, ?_⟩⟩
          exact q _ _ (s1.trans s3) (.lst (SqL.of (by rw [off_out (lv.out nD)]; exact hD)) (dpAll_same (off_mono fun z hz => List.mem_cons_of_mem _ hz) du))
      | @tup a xs ds hl ha =>
        refine iteT (.inr ⟨_, rfl, a, rfl, ⟨_, sqt_off hl⟩, fun D nD => ?_⟩)
        refine lc_it (walk_tup (xs := xs)) (fun i Hx => Same H1 Hx ∧ ∃ us, Hx D = some (.lst us) ∧ DpAll K (off Hx (D :: S)) us (ds.take i)) ⟨same_upd nD, [], upd_same, .nil⟩ (fun i H2 _ h => same_tup h.1 (sqt_off hl)) ?_ ?_
        · skip
          have lx := dpAll_len ha
          have l5 : ds.length ≤ 5000 := Nat.le_trans (Nat.le_max_left _ _) hw
          rintro i y H3 H4 hi ⟨s3, us, hD, du⟩ ⟨rfl, gy⟩
          obtain ⟨d1, g1, p1⟩ := dpAll_at ha gy
          refine ⟨rfl, tYes_at ?_⟩
          rw [if_pos rfl]
          have lv3 : Live (D :: S) H4 := (lv.same s3).cons hD
          have lus : us.length ≤ 5000 := by
            rw [dpAll_len du, List.length_take]; omega
          refine ⟨_, rfl, D :: S, y, d1, rfl, lv3, dp_same (same_new s3 nD) p1, ?_, ?_, fun H5 z s5 dz => ?_⟩
          · have h1 := depth_at g1
            have h2 : PyData.depthAll ds + 1 < k + 1 := hd
            omega
          · exact Nat.le_trans (wid_at g1) (Nat.le_trans (Nat.le_max_right _ _) hw)
          · have sw : Sm (D :: S) H5 (upd H5 D (.lst (us ++ [z]))) := sm_wr List.mem_cons_self
            refine ⟨us, s5 _ _ hD, Nat.lt_of_le_of_lt lus (by decide), same_put (s3.trans s5) nD, us ++ [z], upd_same, ?_⟩
            rw [List.take_add_one, g1]
            exact dpAll_same sw (dpAll_app' (dpAll_same (sm_of s5) du) (.cons dz .nil))
        · rintro H3 ⟨s3, us, hD, du⟩
          rw [dpAll_len ha, List.take_of_length_le (Nat.le_refl _)] at du
          have dH3 := dp_same s3 dH
          refine ⟨_, rfl, _, .ty _, _, _, isListD _, rfl, .ty _, tyx_dp dH3, kit_list dH3, _, rfl, iteF ⟨_, rfl, D, _, rfl, .inl ⟨SqL.of hD, fun u nu => ?_⟩⟩⟩
          have su := same_upd (o := .tup us) nu
          have uS : u ∉ S := ((lv.same s3).out nu)
          exact q _ _ ((s1.trans s3).trans su) (.tup (.inl (.inl (by rw [off_out uS]; exact upd_same))) (dpAll_same ((off_mono (fun z hz => List.mem_cons_of_mem _ hz) : Same (off H3 (D :: S)) (off H3 S)).trans (sm_of su)) du))
      | int i => exact iteF ⟨_, rfl, q _ _ s1 dx0⟩
      | bl b => exact iteF ⟨_, rfl, q _ _ s1 dx0⟩
      | str z => exact iteF ⟨_, rfl, q _ _ s1 dx0⟩
      | non => exact iteF ⟨_, rfl, q _ _ s1 dx0⟩

end
end Pot

namespace Pot
open PySem PySem.Spec PyProof.Rows L2
section
variable {P : Program} {w : World} {K : PySem.W.Frag} {mg : Str → Option Value} {base : Heap}
def tmsD (ts : List Tm) : PyData := .list (ts.map tmD)
theorem frs_same {H H' : Hp} {fs : List (V × PyData)} (s : Same H H') (h : ∀ p ∈ fs, Dp K H p.1 p.2) : ∀ p ∈ fs, Dp K H' p.1 p.2 := fun p hp => dp_same s (h p hp)
theorem noL_tm (t : Tm) : noLAll.noL (tmD t) := ⟨trivial, trivial, trivial, trivial, trivial⟩
theorem noL_o5 (o : Off5) : noLAll.noL (o5D o) := ⟨trivial, trivial, trivial, trivial, trivial, trivial⟩
theorem noL_ints : ∀ ns : List Int, noLAll (ns.map PyData.int)
  | [] => trivial
  | _ :: r => ⟨trivial, noL_ints r⟩
/-- a new list of data without lists, told beside S -/
theorem lst_new {H H' : Hp} {S : List Addr} {L : Addr} {us : List V} {ds : List PyData} (lv : Live S H) (h : H L = none) (hS : ∀ s ∈ S, ∃ xs, H' s = some (.lst xs)) (e : H' L = some (.lst us)) (n : noLAll ds) (d : DpAll K H' us ds) : Dp K (off H' S) (.ref L) (.list ds) :=
  .lst (SqL.of (by rw [off_out (lv.out h)]; exact e)) (dpAll_go (go_offL hS) n d)
theorem bd_tm {t : Tm} (h : TmOk t) : Bd 9 1000 4041 1 80 (tmD t) := by
  obtain ⟨a1, a2⟩ := h.a
  obtain ⟨b1, b2⟩ := h.b
  have bs : ∀ {z : Str}, Nm z → Bd 9 1000 92 0 80 (.str z) := fun hn => (bd_str (Nat.le_trans hn.1.1 (by decide)) (by decide) hn.ascii).mono (Nat.le_refl _) (Nat.le_refl _) (by decide) (Nat.le_refl _) (Nat.zero_le _)
  have bi : ∀ {i : Int}, i.natAbs ≤ 1000 → Bd 9 1000 1921 0 80 (.int i) := fun h => (bd_int h).mono (Nat.le_refl _) (Nat.le_refl _) (Nat.le_refl _) (Nat.le_refl _) (Nat.zero_le _)
  have b4 : Bds 9 1000 (92 + 2 + (92 + 2 + (1921 + 2 + (1921 + 2)))) 0 80 [.str t.1, .str t.2.1, .int t.2.2.1, .int t.2.2.2] := (Bds.one (bs h.n)).app ((Bds.one (bs h.c)).app ((Bds.one (bi (by omega))).app (Bds.one (bi (by omega)))))
  exact (b4.tuple (by show 4 ≤ 80; decide)).mono (Nat.le_refl _) (Nat.le_refl _) (by decide) (Nat.le_refl _) (Nat.le_refl _)
theorem bd_tms {ts : List Tm} (h : ∀ t ∈ ts, TmOk t) (l : ts.length ≤ 20) : Bd 9 1000 81000 2 80 (tmsD ts) := by
  have b := (bds_map (f := tmD) fun t ht => bd_tm (h t ht)).list (show (ts.map tmD).length ≤ 80 by rw [List.length_map]; omega)
  exact b.mono (Nat.le_refl _) (Nat.le_refl _) (by have := Nat.mul_le_mul_left 4043 l; omega) (Nat.le_refl _) (Nat.le_refl _)
theorem bd_palE {cs : List Col} {ws : List Wsh} (pal : PalE cs ws) : Bd 9 1000 300000 3 80 (palD cs ws) := by
  have bs : ∀ {z : Str}, Nm z → Bd 9 1000 92 0 80 (.str z) := fun hn => (bd_str (Nat.le_trans hn.1.1 (by decide)) (by decide) hn.ascii).mono (Nat.le_refl _) (Nat.le_refl _) (by decide) (Nat.le_refl _) (Nat.zero_le _)
  have bi : ∀ {i : Int}, i.natAbs ≤ 1000 → Bd 9 1000 1921 0 80 (.int i) := fun h => (bd_int h).mono (Nat.le_refl _) (Nat.le_refl _) (Nat.le_refl _) (Nat.le_refl _) (Nat.zero_le _)
  have bc : ∀ c ∈ cs, Bd 9 1000 5870 1 80 (colD c) := fun c hc => by
    obtain ⟨h1, h2, h3, h4, h5, h6⟩ := pal.ch c hc
    have b4 : Bds 9 1000 (92 + 2 + (1921 + 2 + (1921 + 2 + (1921 + 2)))) 0 80 [.str c.1, .int c.2.1, .int c.2.2.1, .int c.2.2.2] := (Bds.one (bs (pal.wd c hc))).app ((Bds.one (bi (by omega))).app ((Bds.one (bi (by omega))).app (Bds.one (bi (by omega)))))
    exact (b4.tuple (by show 4 ≤ 80; decide)).mono (Nat.le_refl _) (Nat.le_refl _) (by decide) (Nat.le_refl _) (Nat.le_refl _)
  have bw : ∀ r ∈ ws, Bd 9 1000 2120 1 80 (washD r) := fun r hr => by
    obtain ⟨h1, h2, h3⟩ := pal.wa r hr
    have bo : Bd 9 1000 1921 0 80 (optD r.2.2) := by
      cases h : r.2.2 with
      | none => exact bd_none.mono (Nat.le_refl _) (Nat.le_refl _) (by decide) (Nat.le_refl _) (Nat.zero_le _)
      | some i => have := h1 i h; exact bi (by omega)
    have b4 : Bds 9 1000 (92 + 2 + (92 + 2 + (1921 + 2))) 0 80 [.str r.1, .str r.2.1, optD r.2.2] := (Bds.one (bs h2)).app ((Bds.one (bs h3)).app (Bds.one bo))
    exact (b4.tuple (by show 3 ≤ 80; decide)).mono (Nat.le_refl _) (Nat.le_refl _) (by decide) (Nat.le_refl _) (Nat.le_refl _)
  have l1 := pal.le
  have l2 := pal.ok.nw
  have b1 := (bds_map (f := colD) bc).tuple (show (cs.map colD).length ≤ 80 by rw [List.length_map]; omega)
  have b2 := (bds_map (f := washD) bw).tuple (show (ws.map washD).length ≤ 80 by rw [List.length_map]; omega)
  exact (((Bds.one b1).app (Bds.one b2)).tuple (by show 2 ≤ 80; decide)).mono (Nat.le_refl _) (Nat.le_refl _) (by have := Nat.mul_le_mul_left 5872 l1; have := Nat.mul_le_mul_left 2122 l2; omega) (Nat.le_refl _) (Nat.le_refl _)
def allD (cs : List Col) (ws : List Wsh) (ps : List (List Trn)) (ts : List Tm) : PyData := .list [palD cs ws, potsD ps, tmsD ts]
theorem bd_all {cs : List Col} {ws : List Wsh} {ps : List (List Trn)} {ts : List Tm} (pal : PalE cs ws) (pok : PotsOk cs ps) (h : ∀ t ∈ ts, TmOk t) (l : ts.length ≤ 20) : Bd 9 1000 900000 4 80 (allD cs ws ps ts) := by
  have b1 := bd_palE pal
  have b2 : Bd 9 1000 422827 3 80 (potsD ps) := (bd_pots pal.wd pok).mono (Nat.le_refl _) (Nat.le_refl _) (Nat.le_refl _) (Nat.le_refl _) (by decide)
  have b3 : Bd 9 1000 81000 3 80 (tmsD ts) := (bd_tms h l).mono (Nat.le_refl _) (Nat.le_refl _) (Nat.le_refl _) (by decide) (Nat.le_refl _)
  exact (((Bds.one b1).app ((Bds.one b2).app (Bds.one b3))).list (by show 3 ≤ 80; decide)).mono (Nat.le_refl _) (Nat.le_refl _) (by decide) (Nat.le_refl _) (Nat.le_refl _)
/-- what stands while offers and wants are asked for -/
structure Rt (K : PySem.W.Frag) (H0 : Hp) (b ca : Addr) (cx : List V) (cs : List Col) (fs : List (V × PyData)) (n : Nat) (S : List Addr) (H : Hp) : Prop where
  st : Bp H b n
  sm : Sm [b] H0 H
  fr : ∀ q ∈ fs, Dp K (off H S) q.1 q.2
  hc : SqT K (off H S) ca cx
  hx : DpAll K (off H S) cx (cs.map colD)
section
variable {H0 H H' : Hp} {b ca L p : Addr} {cx : List V} {cs : List Col} {fs : List (V × PyData)} {n m : Nat} {S S' : List Addr} {o : HO}
theorem Rt.drawn (R : Rt K H0 b ca cx cs fs n S H) (hb : b ∈ S) (st : Bp H' b m) (s : Sm [b] H H') : Rt K H0 b ca cx cs fs m S H' :=
  have s2 : Sm S H H' := sm_one hb s
  ⟨st, R.sm.trans s, frs_same s2 R.fr, same_tup s2 R.hc, dpAll_same s2 R.hx⟩
theorem Rt.same (R : Rt K H0 b ca cx cs fs n S H) (s : Same H H') : Rt K H0 b ca cx cs fs n S H' :=
  have s2 : Sm S H H' := sm_of s
  ⟨R.st.same s, R.sm.trans (sm_of s), frs_same s2 R.fr, same_tup s2 R.hc, dpAll_same s2 R.hx⟩
theorem Rt.new (R : Rt K H0 b ca cx cs fs n S H) (s : Same H H') (h : H L = none) : Rt K H0 b ca cx cs fs n (L :: S) H' :=
  have s2 := same_new (S := S) s h
  ⟨R.st.same s, R.sm.trans (sm_of s), frs_same s2 R.fr, same_tup s2 R.hc, dpAll_same s2 R.hx⟩
theorem Rt.low (R : Rt K H0 b ca cx cs fs n S H) (h : ∀ x ∈ S', x ∈ S) : Rt K H0 b ca cx cs fs n S' H :=
  have s2 : Same (off H S) (off H S') := off_mono h
  ⟨R.st, R.sm, frs_same s2 R.fr, same_tup s2 R.hc, dpAll_same s2 R.hx⟩
theorem Rt.wr (R : Rt K H0 b ca cx cs fs n S H) (hp : p ∈ S) (pb : p ≠ b) (h0 : H0 p = none) : Rt K H0 b ca cx cs fs n S (upd H p o) :=
  have s2 : Sm S H (upd H p o) := sm_wr hp
  ⟨R.st.wr pb, smp R.sm h0, frs_same s2 R.fr, same_tup s2 R.hc, dpAll_same s2 R.hx⟩
theorem Rt.mono (R : Rt K H0 b ca cx cs fs n S H) (h : n ≤ m) : Rt K H0 b ca cx cs fs m S H := ⟨R.st.mono h, R.sm, R.fr, R.hc, R.hx⟩
theorem Rt.free (R : Rt K H0 b ca cx cs fs n S H) (h : H p = none) : H0 p = none := sm_free R.sm R.st.bx h
end
theorem Rt.lst {K : PySem.W.Frag} {H0 H : Hp} {b ca : Addr} {cx : List V} {cs : List Col} {fs : List (V × PyData)} {n : Nat} {S : List Addr} (R : Rt K H0 b ca cx cs fs n S H) : ∀ s ∈ [b], ∃ xs, H s = some (.lst xs) := fun s hs => by
  rw [List.mem_singleton.mp hs]
  obtain ⟨x, y, z, h, _⟩ := R.st
  exact ⟨_, h⟩
theorem Rt.add {K : PySem.W.Frag} {H0 H : Hp} {b ca : Addr} {cx : List V} {cs : List Col} {fs : List (V × PyData)} {n : Nat} {S : List Addr} {x : V} {d : PyData} (R : Rt K H0 b ca cx cs fs n S H) (h : Dp K (off H S) x d) : Rt K H0 b ca cx cs ((x, d) :: fs) n S H :=
  ⟨R.st, R.sm, fun q hq => (List.mem_cons.mp hq).elim (fun e => by rw [e]; exact h) (R.fr q), R.hc, R.hx⟩
theorem Rt.less {K : PySem.W.Frag} {H0 H : Hp} {b ca : Addr} {cx : List V} {cs : List Col} {fs : List (V × PyData)} {n : Nat} {S : List Addr} {x : V × PyData} (R : Rt K H0 b ca cx cs (x :: fs) n S H) : Rt K H0 b ca cx cs fs n S H :=
  ⟨R.st, R.sm, fun q hq => R.fr q (List.mem_cons_of_mem _ hq), R.hc, R.hx⟩
theorem Rt.live {K : PySem.W.Frag} {H0 H : Hp} {b ca : Addr} {cx : List V} {cs : List Col} {fs : List (V × PyData)} {n : Nat} {S : List Addr} (R : Rt K H0 b ca cx cs fs n S H) : Live [b] H := Live.pw R.st
theorem tms_list {K : PySem.W.Frag} {H0 H : Hp} {b ca R : Addr} {cx : List V} {cs : List Col} {fs : List (V × PyData)} {n : Nat} {S : List Addr} {tms : List Tm} (M : Rt K H0 b ca cx cs fs n S H) (h : (V.ref R, tmsD tms) ∈ fs) : ∃ tx, SqL K H R tx ∧ DpAll K H tx (tms.map tmD) := by
  obtain ⟨R', tx, e, h1, h2⟩ := dp_lst (dp_off (M.fr _ h))
  have := V.ref.inj e
  subst this
  exact ⟨tx, h1, h2⟩
theorem ite_te {c : Bool} {ta tb : TE} {σ : L2.St} {H : Hp} {Q0 : VK} (G : V → Hp → Prop) (hx : ∀ Q1 : VK, (∀ x H, G x H → Q1 x H) → c = true → ta σ H Q1) (hy : ∀ Q1 : VK, (∀ x H, G x H → Q1 x H) → c = false → tb σ H Q1) (k : ∀ x H, G x H → Q0 x H) : if c = true then ta σ H Q0 else tb σ H Q0 := by
  cases c with
  | false => rw [if_neg Bool.false_ne_true]; exact hy Q0 k rfl
  | true => rw [if_pos rfl]; exact hx Q0 k rfl
theorem colF_ok {cs : List Col} {z : Str} (h : ∃ c ∈ cs, c.1 = z) : ∃ c, c ∈ cs ∧ colF cs z = some c ∧ c.1 = z := by
  obtain ⟨c0, h0, e0⟩ := h
  unfold colF
  cases e : cs.find? (fun c => decide (c.1 = z)) with
  | none =>
    have := List.find?_eq_none.mp e c0 h0
    exact absurd (decide_eq_true e0) this
  | some c => exact ⟨c, List.mem_of_find?_eq_some e, rfl, of_decide_eq_true (List.find?_some (p := fun c : Col => decide (c.1 = z)) e)⟩
def fndD (g : Int) (z : Str) (ps : List (List Trn)) (tms : List Tm) (n : Nat) : PyData := .list [.list ((selP g z ps 0).map o5D), .list ((cwL z tms n).map PyData.int), .list ((cwL z tms 60).map PyData.int)]
theorem bd_fnd {g : Int} {z : Str} {cs : List Col} {ps : List (List Trn)} {tms : List Tm} {n : Nat} (hg : g.natAbs ≤ 1000) (pok : PotsOk cs ps) (lt : tms.length ≤ 20) (hn : n ≤ 60) : Bd 9 1000 1000000 3 80 (fndD g z ps tms n) := by
  have bi : ∀ {i : Int}, i.natAbs ≤ 1000 → Bd 9 1000 1921 0 80 (.int i) := fun h => (bd_int h).mono (Nat.le_refl _) (Nat.le_refl _) (Nat.le_refl _) (Nat.le_refl _) (Nat.zero_le _)
  have hT : ∀ (ts : List Trn) (i j : Nat), ts.length ≤ 9 → (∀ t ∈ ts, TrOk cs t) → i ≤ 8 → j + ts.length ≤ 9 → ∀ o ∈ selT g z i ts j, o.1 ≤ 8 ∧ o.2.1 ≤ 9 ∧ o.2.2.1.natAbs ≤ 60 ∧ o.2.2.2.1.natAbs ≤ 60 ∧ o.2.2.2.2 = g := by
    intro ts
    induction ts with
    | nil => intro i j _ _ _ _ o ho; exact (List.not_mem_nil ho).elim
    | cons t ts ih =>
      intro i j h1 h2 h3 h4 o ho
      have h4' : j + (ts.length + 1) ≤ 9 := h4
      rcases List.mem_append.mp (show o ∈ (if t.2.1 = z then [((i, j, t.2.2.1, t.2.2.2, g) : Off5)] else []) ++ selT g z i ts (j + 1) from ho) with h | h
      · by_cases e : t.2.1 = z
        · rw [if_pos e] at h
          rw [List.mem_singleton.mp h]
          have tk := h2 t List.mem_cons_self
          obtain ⟨a1, a2⟩ := tk.a
          obtain ⟨b1, b2⟩ := tk.b
          exact ⟨h3, by show j ≤ 9; omega, by show t.2.2.1.natAbs ≤ 60; omega, by show t.2.2.2.natAbs ≤ 60; omega, rfl⟩
        · rw [if_neg e] at h; exact (List.not_mem_nil h).elim
      · exact ih i (j + 1) (by have : (t :: ts).length = ts.length + 1 := rfl; omega) (fun x hx => h2 x (List.mem_cons_of_mem _ hx)) h3 (by omega) o h
  have hP : ∀ (l : List (List Trn)) (i : Nat), (∀ p ∈ l, p.length ≤ 9 ∧ ∀ t ∈ p, TrOk cs t) → i + l.length ≤ 8 → ∀ o ∈ selP g z l i, o.1 ≤ 8 ∧ o.2.1 ≤ 9 ∧ o.2.2.1.natAbs ≤ 60 ∧ o.2.2.2.1.natAbs ≤ 60 ∧ o.2.2.2.2 = g := by
    intro l
    induction l with
    | nil => intro i _ _ o ho; exact (List.not_mem_nil ho).elim
    | cons p l ih =>
      intro i h1 h2 o ho
      have h2' : i + (l.length + 1) ≤ 8 := h2
      rcases List.mem_append.mp (show o ∈ selT g z i p 0 ++ selP g z l (i + 1) from ho) with h | h
      · have hp := h1 p List.mem_cons_self
        exact hT p i 0 hp.1 hp.2 (by omega) (by omega) o h
      · exact ih (i + 1) (fun x hx => h1 x (List.mem_cons_of_mem _ hx)) (by omega) o h
  have bo : ∀ o ∈ selP g z ps 0, Bd 9 1000 9618 1 80 (o5D o) := fun o ho => by
    obtain ⟨h1, h2, h3, h4, h5⟩ := hP ps 0 pok.e (by have := pok.l; omega) o ho
    have b5 := (Bds.one (bi (i := ((o.1 : Nat) : Int)) (by omega))).app ((Bds.one (bi (i := ((o.2.1 : Nat) : Int)) (by omega))).app ((Bds.one (bi (i := o.2.2.1) (by omega))).app ((Bds.one (bi (i := o.2.2.2.1) (by omega))).app (Bds.one (bi (i := o.2.2.2.2) (by rw [h5]; exact hg))))))
    exact (b5.tuple (by show 5 ≤ 80; decide)).mono (Nat.le_refl _) (Nat.le_refl _) (by decide) (Nat.le_refl _) (Nat.le_refl _)
  have bw : ∀ k, k ≤ 60 → Bd 9 1000 115400 2 80 (.list ((cwL z tms k).map PyData.int)) := fun k hk => by
    have lk : (cwL z tms k).length ≤ 60 := by unfold cwL; rw [List.length_map, List.length_range]; exact hk
    have b := (bds_map (f := PyData.int) (l := cwL z tms k) fun i hi => by
      obtain ⟨h, _, rfl⟩ := List.mem_map.mp hi
      have := cw_le z tms h
      exact bi (by omega)).list (show ((cwL z tms k).map PyData.int).length ≤ 80 by rw [List.length_map]; omega)
    exact b.mono (Nat.le_refl _) (Nat.le_refl _) (by have := Nat.mul_le_mul_left 1923 lk; omega) (by decide) (Nat.le_refl _)
  have lo : (selP g z ps 0).length ≤ 72 := Nat.le_trans (selP_len 0 fun p hp => (pok.e p hp).1) (by have := pok.l; omega)
  have b1 := (bds_map (f := o5D) bo).list (show ((selP g z ps 0).map o5D).length ≤ 80 by rw [List.length_map]; omega)
  exact (((Bds.one b1).app ((Bds.one (bw n hn)).app (Bds.one (bw 60 (Nat.le_refl _))))).list (by show 3 ≤ 80; decide)).mono (Nat.le_refl _) (Nat.le_refl _) (by have := Nat.mul_le_mul_left 9620 lo; omega) (Nat.le_refl _) (Nat.le_refl _)
abbrev s__law_right : Stmt := topS 21
def n__law_right : List Str := ["_law_box_here", "_law_palette_here", "_law_pots_here", "_law_teams", "_law_handed", "_law_row", "_law_colour", "_law_way", "_law_hours", "_law_due", "_law_turn", "_law_found", "_law_some", "_law_name"]
theorem sc__law_right : FnScope n__law_right ["_law_box_here"] (defScope s__law_right) := ⟨rfl, rfl, rfl, by decide +kernel, rfl, by decide +kernel, by decide +kernel⟩
def spRight : Sp := fun vs H Q _ => ∃ (b : Addr) (n : Nat), vs = [.ref b] ∧ Bp H b n ∧ n < 2 ^ 36 ∧ ∀ H', Bp H' b (n + 2000) → Sm [b] H H' → Q (.bl true) H'
set_option maxHeartbeats 2000000 in
theorem ok_right {f : Addr} {fd : FuncData} {k : Nat} (F : Fun K "_law_right" "_law_right" s__law_right f fd) (T : Txt mg) (c__law_take : Cl P w K mg base (k + 1) "_law_take" spTake) (c__law_names : Cl P w K mg base (k + 2) "_law_names" spNames) (c__law_palette : Cl P w K mg base (k + 3) "_law_palette" (spPalette K)) (c__law_pots : Cl P w K mg base (k + 3) "_law_pots" (spPots K)) (c__law_team : Cl P w K mg base (k + 2) "_law_team" (spTeam K)) (c__law_copied : Cl P w K mg base (k + 7) "_law_copied" (spCopied K 6)) (c__law_turns_of : Cl P w K mg base (k + 1) "_law_turns_of" (spOffers K)) (c__law_wants : Cl P w K mg base (k + 1) "_law_wants" (spWants K)) (c_offers_of : Cl P w K mg base (k + 2) "offers_of" (spOffers K)) (c_wants_of : ClD P w K mg base (k + 2) "wants_of" [] (spWants K)) (c_wants_of1 : ClD P w K mg base (k + 2) "wants_of" [.int 60] (spWants K)) : FnG P w K mg base (k + 8) f fd ["_law_box_here"] spRight := by
  refine okG F sc__law_right (fun vs H Q E h => ?_) (fun cdv A outer s H vs Q gd hr h => ?_)
  · obtain ⟨b, n, rfl, _⟩ := h
    rfl
  · obtain ⟨b, n, rfl, B, hn, q⟩ := h
    have nd := sc__law_right.nd
    have hu64 := hr.units
    /- 0 _law_box_here, 1 _law_palette_here, 2 _law_pots_here, 3 _law_teams, 4 _law_handed, 5 _law_row, 6 _law_colour, 7 _law_way, 8 _law_hours, 9 _law_due, 10 _law_turn, 11 _law_found, 12 _law_some, 13 _law_name -/
    refine ⟨_, (pss_cons (ps_set (i := 1) nd rfl (.inr rfl) (pe_cl c__law_palette hr (by omega) (by rfl) (pa_cons (pv 0) (pa_cons pe_int pa_nil))))
      (pss_cons (ps_set (i := 2) nd rfl (.inr rfl) (pe_cl c__law_pots hr (by omega) (by rfl) (pa_cons (pv 0) (pa_cons (pv 1) (pa_cons pe_int pa_nil)))))
      (pss_cons (ps_setLc (i := 3) (own := [("_law_name", 13)]) rfl nd rfl rfl (sw_true rfl rfl rfl (by decide +kernel)) (ki_list (K := K) (pe_cl c__law_names hr (by omega) (by rfl) (pa_cons (pv 0) (pa_cons (pe_cl c__law_take hr (by omega) (by rfl) (pa_cons (pv 0) (pa_cons pe_int pa_nil))) pa_nil)))) (blkOk_by (N := n__law_right) (sc := defScope s__law_right) (by decide +kernel)) (fun _ _ _ _ _ => (pg_name (i := 13) nd rfl (.inl rfl))) (fun _ _ _ _ _ => pts_nil) (fun _ _ _ _ _ => (pe_cl c__law_team hr (by omega) (by rfl) (pa_cons (pv 0) (pa_cons (pv 1) (pa_cons (pv 2) (pa_cons (pv 13) pa_nil)))))))
      (pss_cons (ps_set (i := 4) nd rfl (.inl rfl) (pe_cl c__law_copied hr (by omega) (by rfl) (pa_cons (pe_lst (pa_cons (pv 1) (pa_cons (pv 2) (pa_cons (pv 3) pa_nil)))) pa_nil)))
      (pss_cons (ps_for PassesOwn.never rfl (ki_tup (K := K) (pe_ix (kx_tup (K := K)) (pv 1) pe_int (fun _ _ => rfl))) (pg_name (i := 5) nd rfl (.inl rfl))
          (pss_cons (ps_par (i := 6) (j := 7) rfl nd rfl rfl (by decide) rfl rfl (pa_cons (pe_ix (kx_tup (K := K)) (pv 5) pe_int (fun _ _ => rfl)) (pa_cons (pe_cl c__law_take hr (by omega) (by rfl) (pa_cons (pv 0) (pa_cons pe_int pa_nil))) pa_nil)) rfl)
          (pss_cons (ps_set (i := 8) nd rfl (.inl rfl) (pe_ifExp (pt_cmpR op_eq (pv 7) pe_int (nomark _)) (pe_cl c__law_take hr (by omega) (by rfl) (pa_cons (pv 0) (pa_cons pe_int pa_nil))) (pe_ix (kx_list (K := K)) (pe_lst (pa_cons pe_int (pa_cons pe_int pa_nil))) (pv 7) (fun _ _ => rfl))))
          (pss_cons (ps_set (i := 9) nd rfl (.inl rfl) (pe_lst (pa_cons (pe_cl c__law_turns_of hr (by omega) (by rfl) (pa_cons (pv 1) (pa_cons (pv 2) (pa_cons (pv 6) pa_nil)))) (pa_cons (pe_cl c__law_wants hr (by omega) (by rfl) (pa_cons (pv 3) (pa_cons (pv 6) (pa_cons (pv 8) pa_nil)))) (pa_cons (pe_cl c__law_wants hr (by omega) (by rfl) (pa_cons (pv 3) (pa_cons (pv 6) (pa_cons pe_int pa_nil)))) pa_nil)))))
          (pss_one (ps_for PassesOwn.never rfl (pi_range1 (by rfl) T.range (pa_cons pe_int pa_nil)) (pg_name (i := 10) nd rfl (.inl rfl))
              (pss_cons (ps_set (i := 11) nd rfl (.inl rfl) (pe_lst (pa_cons (pe_cl c_offers_of hr (by omega) (by rfl) (pa_cons (pv 1) (pa_cons (pv 2) (pa_cons (pv 6) pa_nil)))) (pa_cons (pe_cd c_wants_of hr (by omega) (by rfl) (pa_cons (pv 3) (pa_cons (pv 6) (pa_cons (pv 8) pa_nil)))) (pa_cons (pe_cd c_wants_of1 hr (by omega) (by rfl) (pa_cons (pv 3) (pa_cons (pv 6) pa_nil))) pa_nil)))))
              (pss_cons (ps_if (pt_cmpR op_ne (pe_callB (kc_repr (K := K) gd hu64) (by rfl) T.repr (by decide +kernel) (pa_cons (pv 11) pa_nil)) (pe_callB (kc_repr (K := K) gd hu64) (by rfl) T.repr (by decide +kernel) (pa_cons (pv 9) pa_nil)) (nomark _))
                  pss_never
                  pss_nil)
              (pss_one (ps_for PassesOwn.never rfl (ki_list (K := K) (pv 11)) (pg_name (i := 12) nd rfl (.inl rfl))
                  (pss_one (ps_expr (pe_bm PySem.F.plainAttrs_list PySem.F.slot_list_append PySem.F.type_list_append mt_append (pv 12) (pa_cons pe_str pa_nil))))))))))))))
      (pss_one (ps_ret (pe_cmpR (ko_eq (K := K) hu64) (pe_lst (pa_cons (pv 1) (pa_cons (pv 2) (pa_cons (pv 3) pa_nil)))) (pv 4) (nomark _))))))))), ?_⟩
    refine ⟨_, rfl, b, n, rfl, B, by omega, fun H1 v cs ws B1 s1 dv pal => ?_⟩
    refine ⟨_, rfl, _, rfl, b, v, cs, ws, _, rfl, B1, by omega, dv, pal, fun H2 P ps B2 s2 dps pok => ?_⟩
    have dv := dp_same (sm_one (S := [b]) (by simp) s2) dv
    have B2' := B2
    refine ⟨_, rfl, _, rfl, b, 11, _, rfl, (by decide), (by decide), B2, by omega, fun H3 m m0 m1 B3 s3 => ?_⟩
    obtain ⟨m, rfl⟩ : ∃ m2 : Nat, m = (m2 : Int) := ⟨m.toNat, by omega⟩
    refine ⟨b, _, m, rfl, B3, by omega, by omega, fun H4 N ys B4 s4 nN hN ly wy => ⟨N, rfl, ⟨_, SqL.of hN⟩, fun R nR => ?_⟩⟩
    have s34 := s3.trans s4
    have Nb : N ≠ b := fun z => by
      have := B3.bx.ne nN
      exact this z
    have NR : N ≠ R := ne_of_none hN nR
    have sc4 : Sm [b] H H4 := ((s1.trans s2).trans s34)
    have A0 := Acc.start (R := R) (fs := [(v, palD cs ws), (.ref P, potsD ps)]) (H0 := H) B4 sc4 nR (fun p hp => by
      simp only [List.mem_cons, List.not_mem_nil, or_false] at hp
      rcases hp with rfl | rfl
      · exact dp_same (sm_one (S := [b]) (by simp) s34) dv
      · exact dp_same (sm_one (S := [b]) (by simp) s34) dps)
    have hN0 : upd H4 R (.lst []) N = some (.lst (ys.map V.str)) := by rw [upd_ne NR]; exact hN
    have m10 : m ≤ 10 := by omega
    refine lc_it (walk_list (xs := ys.map V.str)) (fun i Hx => ∃ us tms, Acc K H b R [(v, palD cs ws), (.ref P, potsD ps)] (n + 300 + 600 + 1 + 20 + 10 * i) us (tms.map tmD) Hx ∧ tms.length = i ∧ (∀ t ∈ tms, TmOk t) ∧ Hx N = some (.lst (ys.map V.str))) ⟨[], [], A0, rfl, (fun _ h => (List.not_mem_nil h).elim), hN0⟩ (fun i Hx _ h => by obtain ⟨_, _, _, _, _, h⟩ := h; exact SqL.of h) ?_ ?_
    · rintro i x H5 H6 hi ⟨us, tms, M, ltm, tok, hN⟩ ⟨rfl, gx⟩
      rw [List.getElem?_map] at gx
      obtain ⟨z, gz, rfl⟩ := Option.map_eq_some_iff.mp gx
      have hi2 : i < m := by have := (List.getElem?_eq_some_iff.mp gz).1; omega
      refine ⟨rfl, tYes_at ?_⟩
      rw [if_pos rfl]
      refine ⟨_, rfl, _, rfl, _, rfl, _, rfl, b, P, v, cs, ws, ps, z, _, rfl, M.st, by omega, M.kept (q := (v, palD cs ws)) (by simp), pal, M.kept (q := (.ref P, potsD ps)) (by simp), pok, wy z (List.mem_of_getElem? gz), fun H7 t tm B7 s7 dt tk => ?_⟩
      have M := M.drawn B7 s7
      have hN := sm1_at s7 Nb hN
      have dt2 : Dp K (off H7 [R, b]) (.ref t) (tmD tm) := dp_offX M.hR (noL_tm tm) dt
      have lus : us.length = i := by rw [dpAll_map_len M.dR]; exact ltm
      refine ⟨us, M.hR, (by rw [lus, sizeLine_eq]; omega), us ++ [.ref t], tms ++ [tm], (by rw [List.map_append]; exact (M.app dt2).mono (by omega)), by rw [List.length_append, ltm]; rfl, fun x hx => ?_, by rw [upd_ne NR]; exact hN⟩
      rcases List.mem_append.mp hx with h | h
      · exact tok x h
      · rw [List.mem_singleton.mp h]; exact tk
    rintro H5 ⟨us, tms, M, ltm, tok, _⟩
    rw [List.length_map, ly] at ltm
    have dv := M.kept (q := (v, palD cs ws)) (by simp)
    have dps := M.kept (q := (.ref P, potsD ps)) (by simp)
    have dts := M.done
    have B := M.st.mono (show _ ≤ n + 1100 by rw [List.length_map, ly]; omega)
    have sc := M.sm
    have bda := bd_all pal pok tok (by omega)
    obtain ⟨p, ca, wa, cx, cy, ev, hp, hc, hx, hw, hy⟩ := pal_dp dv
    replace ev : v = .ref p := ev
    refine ⟨_, rfl, _, rfl, _, rfl, (by show 3 ≤ sizeLine; decide), fun a0 na0 => ?_⟩
    have lv5 : Live [b] H5 := Live.pw B
    have fa := off_new (o := .lst [v, .ref P, .ref R]) lv5 na0
    have s6 := sm_put (S := [b]) (o := .lst [v, .ref P, .ref R]) na0
    have da : Dp K (off (upd H5 a0 (.lst [v, .ref P, .ref R])) [b]) (.ref a0) (allD cs ws ps tms) := .lst (SqL.of fa) (.cons (dp_same s6 dv) (.cons (dp_same s6 dps) (.cons (dp_same s6 dts) .nil)))
    have B6 := B.put (o := .lst [v, .ref P, .ref R]) na0
    have sc6 := sc.trans s6
    have hp6 := same_tup s6 hp
    have hc6 := same_tup s6 hc
    have hx6 := dpAll_same s6 hx
    have dv6 := dp_same s6 dv
    have dps6 := dp_same s6 dps
    have dts6 := dp_same s6 dts
    generalize upd H5 a0 (.lst [v, .ref P, .ref R]) = H6 at da B6 sc6 hp6 hc6 hx6 dv6 dps6 dts6 ⊢
    refine ⟨[b], .ref a0, _, rfl, Live.pw B6, da, Nat.lt_of_le_of_lt bda.t.d (by decide), Nat.le_trans bda.t.w (by decide), fun H7 hd s7 dh => ?_⟩
    have s7' : Sm [b] H6 H7 := sm_of s7
    have R7 : Rt K H b ca cx cs [(v, palD cs ws), (.ref P, potsD ps), (.ref R, tmsD tms), (hd, allD cs ws ps tms)] (n + 1100) [b] H7 := by
      refine ⟨B6.same s7, sc6.trans s7', fun q hq => ?_, same_tup s7' hc6, dpAll_same s7' hx6⟩
      simp only [List.mem_cons, List.not_mem_nil, or_false] at hq
      rcases hq with rfl | rfl | rfl | rfl
      · exact dp_same s7' dv6
      · exact dp_same s7' dps6
      · exact dp_same s7' dts6
      · exact dh
    have hp7 := same_tup s7' hp6
    obtain ⟨fs, efs⟩ : ∃ fs, fs = [(v, palD cs ws), (V.ref P, potsD ps), (V.ref R, tmsD tms), (hd, allD cs ws ps tms)] := ⟨_, rfl⟩
    have f1 : (v, palD cs ws) ∈ fs := by rw [efs]; simp
    have f2 : (V.ref P, potsD ps) ∈ fs := by rw [efs]; simp
    have f3 : (V.ref R, tmsD tms) ∈ fs := by rw [efs]; simp
    have f4 : (hd, allD cs ws ps tms) ∈ fs := by rw [efs]; simp
    rw [← efs] at R7
    rw [ev]
    refine ⟨_, rfl, p, _, 0, .ref ca, rfl, rfl, sqt_off hp7, rfl, ca, rfl, ⟨_, sqt_off R7.hc⟩, ?_⟩
    rw [← ev]
    clear hp hc hx hw hy hp6 hc6 hx6 hp7 dv dps dts dv6 dps6 dts6 da fa s6 sc6 B6 B sc lv5 A0 hN0 M s7' dh s7
    have lcx : cx.length = cs.length := dpAll_map_len R7.hx
    refine for_it (walk_tup (xs := cx)) (fun i σ Hx => ∃ (v5 v6 v7 v8 v9 v10 v11 v12 v13 : Option V), σ = [some (.ref b), some v, some (.ref P), some (.ref R), some hd, v5, v6, v7, v8, v9, v10, v11, v12, v13] ∧ Rt K H b ca cx cs fs (n + 1100 + 2 * i) [b] Hx) ⟨_, _, _, _, _, _, _, _, _, rfl, R7⟩ (fun i σ Hx _ h => by obtain ⟨_, _, _, _, _, _, _, _, _, _, h⟩ := h; exact sqt_off h.hc) ?_ ?_
    · clear R7
      rintro i x σ H8 H9 hi ⟨v5, v6, v7, v8, v9, v10, v11, v12, v13, rfl, R8⟩ ⟨rfl, gx⟩
      obtain ⟨c0, gc0, dc0⟩ := dpAll_map_at R8.hx gx
      obtain ⟨rr, er, hrr⟩ := col_dp dc0
      subst er
      have hi6 : i < 6 := by have := pal.le; omega
      obtain ⟨c, hcm, hcf, ecz⟩ := colF_ok ⟨c0, List.mem_of_getElem? gc0, rfl⟩
      refine ⟨_, rfl, rr, _, 0, _, rfl, rfl, sqt_off hrr, rfl, _, rfl, b, 3, _, rfl, (by decide), (by decide), R8.st, by omega, fun Ha wy wy0 wy1 Ba sa => ⟨_, _, rfl, ?_⟩⟩
      have R9 := R8.drawn (by simp) Ba sa
      rw [← ecz] at hcf ⊢
      clear hrr R8 sa Ba dc0
      have l20 : cs.length ≤ 20 := by have := pal.le; omega
      have cg := pal.ch c hcm
      have bf : ∀ k, k ≤ 60 → Bd 9 1000 1000000 3 80 (fndD c.2.2.2 c.1 ps tms k) := fun k hk => bd_fnd (by omega) pok (by omega) hk
      refine ⟨_, rfl, rfl, _, rfl, ite_te (fun x Hb => ∃ hN : Nat, x = V.int (hN : Nat) ∧ hN ≤ 60 ∧ Rt K H b ca cx cs fs (n + 1100 + 2 * i + 2) [b] Hb) (fun Q1 kk hh => ?_) (fun Q1 kk hh => ?_) ?_⟩
      · refine ⟨_, rfl, b, 61, _, rfl, (by decide), (by decide), R9.st, by omega, fun Hb r r0 r1 Bb sb => kk _ _ ⟨r.toNat, by congr 1; omega, by omega, (R9.drawn (by simp) Bb sb).mono (by omega)⟩⟩
      · have hw2 : wy ≠ 2 := fun z => by rw [z, decide_eq_true rfl] at hh; cases hh
        refine ⟨(by show 2 ≤ sizeLine; decide), fun a1 na1 => ?_⟩
        have h : wy = 0 ∨ wy = 1 := by omega
        rcases h with rfl | rfl
        · exact ⟨_, rfl, a1, _, 0, _, rfl, rfl, SqL.of upd_same, rfl, kk _ _ ⟨0, rfl, by decide, (R9.same (same_upd na1)).mono (by omega)⟩⟩
        · exact ⟨_, rfl, a1, _, 1, _, rfl, rfl, SqL.of upd_same, rfl, kk _ _ ⟨60, rfl, by decide, (R9.same (same_upd na1)).mono (by omega)⟩⟩
      rintro x Hb ⟨hN, rfl, h60, R10⟩
      clear R9
      refine ⟨_, rfl, _, rfl, _, rfl, P, v, cs, ws, ps, c, rfl, dp_off (R10.fr _ f1), dp_off (R10.fr _ f2), pok, l20, hcm, hcf, fun H11 L1 u1 s11 nL1 hL1 d1 => ?_⟩
      have R11 := R10.same s11
      have dl1 := lst_new (K := K) R10.live nL1 R11.lst hL1 (noL_map (f := o5D) noL_o5 _) d1
      obtain ⟨tx, hT, dT⟩ := tms_list R11 f3
      refine ⟨_, rfl, _, rfl, _, rfl, R, tx, tms, c.1, hN, rfl, hT, dT, by omega, tok, h60, fun H12 L2 s12 nL2 hL2 => ?_⟩
      have R12 := R11.same s12
      have dl1 := dp_same (sm_of (S := [b]) s12) dl1
      have dl2 := lst_new (K := K) R11.live nL2 R12.lst hL2 (noL_ints _) (dp_ints _)
      obtain ⟨tx, hT, dT⟩ := tms_list R12 f3
      refine ⟨_, rfl, _, rfl, R, tx, tms, c.1, 60, rfl, hT, dT, by omega, tok, Nat.le_refl _, fun H13 L3 s13 nL3 hL3 => ?_⟩
      have R13 := R12.same s13
      have dl1 := dp_same (sm_of (S := [b]) s13) dl1
      have dl2 := dp_same (sm_of (S := [b]) s13) dl2
      have dl3 := lst_new (K := K) R12.live nL3 R13.lst hL3 (noL_ints _) (dp_ints _)
      refine ⟨(by show 3 ≤ sizeLine; decide), fun U nU => ?_⟩
      have fU := off_new (o := .lst [.ref L1, .ref L2, .ref L3]) R13.live nU
      have sU := sm_put (S := [b]) (o := .lst [.ref L1, .ref L2, .ref L3]) nU
      have R14 := R13.same (same_upd (o := .lst [.ref L1, .ref L2, .ref L3]) nU)
      have dU : Dp K (off (upd H13 U (.lst [.ref L1, .ref L2, .ref L3])) [b]) (.ref U) (fndD c.2.2.2 c.1 ps tms hN) := .lst (SqL.of fU) (.cons (dp_same sU dl1) (.cons (dp_same sU dl2) (.cons (dp_same sU dl3) .nil)))
      have R14 := R14.add dU
      generalize upd H13 U (.lst [.ref L1, .ref L2, .ref L3]) = H14 at R14 ⊢
      clear hL1 hL2 hL3 dl1 dl2 dl3 R13 R12 R11 R10 nU fU sU dU d1 hT dT s11 s12 s13
      obtain ⟨fs2, efs2⟩ : ∃ fs2, fs2 = (V.ref U, fndD c.2.2.2 c.1 ps tms hN) :: fs := ⟨_, rfl⟩
      have g0 : (V.ref U, fndD c.2.2.2 c.1 ps tms hN) ∈ fs2 := by rw [efs2]; exact List.mem_cons_self
      have g1 : (v, palD cs ws) ∈ fs2 := by rw [efs2]; exact List.mem_cons_of_mem _ f1
      have g2 : (V.ref P, potsD ps) ∈ fs2 := by rw [efs2]; exact List.mem_cons_of_mem _ f2
      have g3 : (V.ref R, tmsD tms) ∈ fs2 := by rw [efs2]; exact List.mem_cons_of_mem _ f3
      have R14' : Rt K H b ca cx cs fs2 (n + 1100 + 2 * i + 2) [b] H14 := by rw [efs2]; exact R14
      clear R14
      refine ⟨2, rfl, (by decide), (by decide), ?_⟩
      refine for_it walk_range (fun t σ Hx => ∃ (v10 v11 v12 : Option V), σ = [some (.ref b), some v, some (.ref P), some (.ref R), some hd, some (.ref rr), some (.str c.1), some (.int wy), some (.int (hN : Nat)), some (.ref U), v10, v11, v12, v13] ∧ Rt K H b ca cx cs fs2 (n + 1100 + 2 * i + 2) [b] Hx) ⟨_, _, _, rfl, R14'⟩ (fun _ _ _ _ _ => trivial) ?_ ?_
      · clear R14'
        rintro t x σ H15 H16 ht ⟨v10, v11, v12, rfl, R15⟩ ⟨rfl, rfl⟩
        refine ⟨_, rfl, _, rfl, _, rfl, P, v, cs, ws, ps, c, rfl, dp_off (R15.fr _ g1), dp_off (R15.fr _ g2), pok, l20, hcm, hcf, fun H17 L4 u4 s17 nL4 hL4 d4 => ?_⟩
        have L4b : L4 ≠ b := R15.st.ne nL4
        have n4 := R15.free nL4
        have R17 := R15.new s17 nL4
        obtain ⟨tx, hT, dT⟩ := tms_list R17 g3
        refine ⟨_, rfl, _, rfl, _, rfl, R, tx, tms, c.1, hN, rfl, hT, dT, by omega, tok, h60, fun H18 L5 s18 nL5 hL5 => ?_⟩
        have L5b : L5 ≠ b := R17.st.ne nL5
        have n5 := R17.free nL5
        have L54 : L5 ≠ L4 := (ne_of_none hL4 nL5).symm
        have hL4 := s18 _ _ hL4
        have d4 := dpAll_same s18 d4
        have R18 := R17.new s18 nL5
        obtain ⟨tx, hT, dT⟩ := tms_list R18 g3
        refine ⟨_, rfl, _, rfl, R, tx, tms, c.1, 60, rfl, hT, dT, by omega, tok, Nat.le_refl _, fun H19 L6 s19 nL6 hL6 => ?_⟩
        have L6b : L6 ≠ b := R18.st.ne nL6
        have n6 := R18.free nL6
        have L64 : L6 ≠ L4 := (ne_of_none hL4 nL6).symm
        have L65 : L6 ≠ L5 := (ne_of_none hL5 nL6).symm
        have hL4 := s19 _ _ hL4
        have hL5 := s19 _ _ hL5
        have d4 := dpAll_same s19 d4
        have R19 := R18.new s19 nL6
        refine ⟨(by show 3 ≤ sizeLine; decide), fun U2 nU2 => ?_⟩
        have U4 : U2 ≠ L4 := (ne_of_none hL4 nU2).symm
        have U5 : U2 ≠ L5 := (ne_of_none hL5 nU2).symm
        have U6 : U2 ≠ L6 := (ne_of_none hL6 nU2).symm
        have sU := same_upd (o := .lst [.ref L4, .ref L5, .ref L6]) nU2
        have hL4 := sU _ _ hL4
        have hL5 := sU _ _ hL5
        have hL6 := sU _ _ hL6
        have d4 := dpAll_same sU d4
        have hU : upd H19 U2 (.lst [.ref L4, .ref L5, .ref L6]) U2 = some (.lst [.ref L4, .ref L5, .ref L6]) := upd_same
        have R20 := R19.same sU
        generalize upd H19 U2 (.lst [.ref L4, .ref L5, .ref L6]) = H20 at hL4 hL5 hL6 d4 hU R20 ⊢
        clear sU R19 R18 R17 R15 hT dT nU2 nL6 nL5 nL4 s19 s18 s17
        have dF : Dp K H20 (.ref U2) (fndD c.2.2.2 c.1 ps tms hN) := .lst (SqL.of hU) (.cons (.lst (SqL.of hL4) d4) (.cons (.lst (SqL.of hL5) (dp_ints _)) (.cons (.lst (SqL.of hL6) (dp_ints _)) .nil)))
        have bfn := bf hN h60
        have fine := gd_fineW (show 1000 ≤ 10 ^ 12 by decide) _ bfn.t.g
        have dep : (fndD c.2.2.2 c.1 ps tms hN).depth ≤ 60 := Nat.le_trans bfn.t.d (by decide)
        have cst : costAll.cost (fndD c.2.2.2 c.1 ps tms hN) ≤ 16777216 := Nat.le_trans bfn.t.c (by decide)
        have lu4 : u4.length ≤ 72 := by
          rw [dpAll_map_len d4]
          have := selP_len (g := c.2.2.2) (z := c.1) (ps := ps) 0 fun p hp => (pok.e p hp).1
          have := pok.l
          omega
        refine ⟨_, rfl, U2, _, rfl, dF, fine, dep, cst, _, rfl, U, _, rfl, dp_off (R20.fr _ g0), fine, dep, cst, rfl, _, rfl, ?_⟩
        rw [decide_eq_true rfl]
        refine iteF ⟨_, rfl, U2, rfl, ⟨_, SqL.of hU⟩, ?_⟩
        have lcw : ∀ k, k ≤ 60 → ((cwL c.1 tms k).map V.int).length ≤ 60 := fun k hk => by unfold cwL; rw [List.length_map, List.length_map, List.length_range]; exact hk
        refine for_it (walk_list (xs := [V.ref L4, .ref L5, .ref L6])) (fun j σ Hy => ∃ (v12 : Option V) (x4 x5 x6 : List V), σ = [some (.ref b), some v, some (.ref P), some (.ref R), some hd, some (.ref rr), some (.str c.1), some (.int wy), some (.int (hN : Nat)), some (.ref U), some (.int (0 + (t : Int))), some (.ref U2), v12, v13] ∧ Rt K H b ca cx cs fs2 (n + 1100 + 2 * i + 2) [L6, L5, L4, b] Hy ∧ Hy U2 = some (.lst [.ref L4, .ref L5, .ref L6]) ∧ Hy L4 = some (.lst x4) ∧ Hy L5 = some (.lst x5) ∧ Hy L6 = some (.lst x6) ∧ x4.length ≤ 100 + j ∧ x5.length ≤ 100 + j ∧ x6.length ≤ 100 + j) ⟨_, u4, _, _, rfl, R20, hU, hL4, hL5, hL6, by omega, Nat.le_trans (lcw _ h60) (by decide), Nat.le_trans (lcw 60 (Nat.le_refl _)) (by decide)⟩ (fun j σ Hy _ h => by obtain ⟨_, _, _, _, _, _, h, _⟩ := h; exact SqL.of h) ?_ ?_
        · clear R20 hU hL4 hL5 hL6 d4 dF lu4
          rintro j x σ H21 H22 hj ⟨v12, x4, x5, x6, rfl, R21, hU, h4, h5, h6, l4, l5, l6⟩ ⟨rfl, gx⟩
          have hj3 : j < 3 := hj
          have small : ∀ {z : Nat}, z ≤ 100 + j → z < sizeLine := fun h => Nat.lt_of_le_of_lt h (Nat.lt_of_lt_of_le (show 100 + j < 1000 by omega) (by decide))
          have h : j = 0 ∨ j = 1 ∨ j = 2 := by omega
          rcases h with rfl | rfl | rfl
          · have ex : V.ref L4 = x := by simpa using gx
            subst ex
            refine ⟨_, rfl, .inl ⟨rfl, _, SqL.of h4⟩, L4, _, _, rfl, rfl, h4, small l4, ?_⟩
            exact ⟨_, _, x5, x6, rfl, R21.wr (by simp) L4b n4, by rw [upd_ne U4]; exact hU, upd_same, by rw [upd_ne L54]; exact h5, by rw [upd_ne L64]; exact h6, by rw [List.length_append]; show _ + 1 ≤ _; omega, by omega, by omega⟩
          · have ex : V.ref L5 = x := by simpa using gx
            subst ex
            refine ⟨_, rfl, .inl ⟨rfl, _, SqL.of h5⟩, L5, _, _, rfl, rfl, h5, small l5, ?_⟩
            exact ⟨_, x4, _, x6, rfl, R21.wr (by simp) L5b n5, by rw [upd_ne U5]; exact hU, by rw [upd_ne L54.symm]; exact h4, upd_same, by rw [upd_ne L65]; exact h6, by omega, by rw [List.length_append]; show _ + 1 ≤ _; omega, by omega⟩
          · have ex : V.ref L6 = x := by simpa using gx
            subst ex
            refine ⟨_, rfl, .inl ⟨rfl, _, SqL.of h6⟩, L6, _, _, rfl, rfl, h6, small l6, ?_⟩
            exact ⟨_, x4, x5, _, rfl, R21.wr (by simp) L6b n6, by rw [upd_ne U6]; exact hU, by rw [upd_ne L64.symm]; exact h4, by rw [upd_ne L65.symm]; exact h5, upd_same, by omega, by omega, by rw [List.length_append]; show _ + 1 ≤ _; omega⟩
        · rintro σ H21 ⟨v12, x4, x5, x6, rfl, R21, _⟩
          exact ⟨_, _, _, rfl, R21.low (by simp)⟩
      · rintro σ H15 ⟨v10, v11, v12, rfl, R15⟩
        rw [efs2] at R15
        exact ⟨_, _, _, _, _, _, _, _, _, rfl, R15.less.mono (by omega)⟩
    · rintro σ H8 ⟨v5, v6, v7, v8, v9, v10, v11, v12, v13, rfl, R8⟩
      refine ⟨_, rfl, _, rfl, _, rfl, (by show 3 ≤ sizeLine; decide), fun a9 na9 => ?_⟩
      have R9 := R8.same (same_upd (o := .lst [v, .ref P, .ref R]) na9)
      have fa := off_new (o := .lst [v, .ref P, .ref R]) R8.live na9
      have sa := sm_put (S := [b]) (o := .lst [v, .ref P, .ref R]) na9
      refine ⟨_, rfl, allD cs ws ps tms, allD cs ws ps tms, dp_off (S := [b]) (.lst (SqL.of fa) (.cons (dp_same sa (R8.fr _ f1)) (.cons (dp_same sa (R8.fr _ f2)) (.cons (dp_same sa (R8.fr _ f3)) .nil)))), dp_off (R9.fr _ f4), bd_shaped bda (by decide), bd_shaped bda (by decide), ?_⟩
      rw [SeqAt.eqv_refl _ (gd_lay _ bda.t.g)]
      exact q _ (R9.st.mono (by have := pal.le; omega)) R9.sm

end
end Pot

namespace Pot
open PySem PySem.Spec PyProof.Rows L2
section
variable {P : Program} {w : World} {K : PySem.W.Frag} {mg : Str → Option Value} {base : Heap}
abbrev s_law : Stmt := topS 22
def n_law : List Str := ["_law_script", "_law_cells_here", "_law_k", "_law_box_here", "_law_turn"]
theorem sc_law : FnScope n_law ["_law_script"] (defScope s_law) := ⟨rfl, rfl, rfl, by decide +kernel, rfl, by decide +kernel, by decide +kernel⟩
def spLaw (K : PySem.W.Frag) : Sp := fun vs H Q _ => ∃ (a : Addr) (ns : List Int), vs = [.ref a] ∧ SqL K H a (ns.map V.int) ∧ ns.length ≤ 63 ∧ ∀ H', Q (.bl true) H'
theorem ok_law {f : Addr} {fd : FuncData} {k : Nat} (F : Fun K "law" "law" s_law f fd) (T : Txt mg) (c__law_cells : Cl P w K mg base (k + 1) "_law_cells" (spCells K)) (c__law_box : Cl P w K mg base (k + 1) "_law_box" (spBox K)) (c__law_right : ClG P w K mg base (k + 8) "_law_right" [] spRight) : FnG P w K mg base (k + 9) f fd ["_law_script"] (spLaw K) := by
  refine okG F sc_law (fun vs H Q E h => ?_) (fun cdv A outer s H vs Q gd hr h => ?_)
  · obtain ⟨a, ns, rfl, _⟩ := h
    rfl
  · obtain ⟨a, ns, rfl, hS, h63, q⟩ := h
    have nd := sc_law.nd
    refine ⟨_, (pss_cons (ps_set (i := 1) nd rfl (.inl rfl) (pe_cl c__law_cells hr (by omega) (by rfl) (pa_cons (pv 0) (pa_cons pe_int pa_nil))))
      (pss_cons (ps_for PassesOwn.never rfl (pi_range1 (by rfl) T.range (pa_cons (pe_callB (kc_len (K := K)) (by rfl) T.len PySem.boot_len (pa_cons (pv 1) pa_nil)) pa_nil)) (pg_name (i := 2) nd rfl (.inl rfl))
          (pss_cons (ps_set (i := 3) nd rfl (.inr rfl) (pe_cl c__law_box hr (by omega) (by rfl) (pa_cons (pv 1) (pa_cons (pv 2) pa_nil))))
          (pss_one (ps_if (pt_not (pt_val (pe_callB (kc_all (K := K)) (by rfl) T.all (by decide +kernel) (pa_cons (pe_lc (own := [("_law_turn", 4)]) rfl nd (pi_range1 (by rfl) T.range (pa_cons pe_int pa_nil)) (blkOk_by (N := n_law) (sc := defScope s_law) (by decide +kernel)) (fun _ _ _ _ _ => (pg_name (i := 4) nd rfl (.inl rfl))) (fun _ _ _ _ _ => pts_nil) (fun _ _ _ _ _ => (pe_clG c__law_right hr gd (by omega) (by rfl) (pa_cons (pv 3) pa_nil)))) pa_nil))))
              pss_never
              pss_nil))))
      (pss_one (ps_ret pe_bl)))), ?_⟩
    refine ⟨_, rfl, a, ns, rfl, hS, h63, fun H1 c ms s1 nc hc l1 l2 => ?_⟩
    refine ⟨_, rfl, _, _, rfl, .inl ⟨_, SqL.of hc, rfl⟩, _, rfl, (by rw [List.length_map]; omega), (by rw [List.length_map]; omega), ?_⟩
    refine for_it walk_range (fun i σ H2 => ∃ v2 v3, σ = [some (.ref a), some (.ref c), v2, v3, none] ∧ H2 c = some (.lst (ms.map V.int))) ⟨none, none, rfl, hc⟩ (fun _ _ _ _ _ => trivial) ?_ ?_
    · rintro i x σ H2 H3 hi ⟨v2, v3, rfl, hc⟩ ⟨rfl, rfl⟩
      have hi2 : i < ms.length := by rw [List.length_map] at hi; omega
      refine ⟨_, rfl, _, rfl, c, ms, i, (by show [V.ref c, V.int ((0 : Int) + (i : Nat))] = _; rw [Int.zero_add]), SqL.of hc, hi2, by omega, fun H4 b s4 nb B => ?_⟩
      have hc := s4 _ _ hc
      have cb : c ≠ b := ne_of_none (by assumption) nb
      refine ⟨_, rfl, (by decide), (by decide), fun D nD => ?_⟩
      have Db : D ≠ b := B.ne nD
      have Dc : c ≠ D := ne_of_none hc nD
      refine lc_it walk_range (fun j H5 => Bp H5 b (2000 * j) ∧ H5 c = some (.lst (ms.map V.int)) ∧ H5 D = some (.lst ((List.replicate j true).map V.bl))) ⟨B.put nD, same_upd nD _ _ hc, upd_same⟩ (fun _ _ _ _ => trivial) ?_ ?_
      · rintro j y H5 H6 hj ⟨B, hc, hD⟩ ⟨rfl, rfl⟩
        have hj4 : j < 4 := hj
        refine ⟨rfl, tYes_at ?_⟩
        rw [if_pos rfl]
        refine ⟨_, rfl, b, _, rfl, B, by omega, fun H7 B7 s7 => ?_⟩
        have hc := sm1_at s7 cb hc
        have hD := sm1_at s7 Db hD
        refine ⟨_, hD, ?_, (B7.wr Db).mono (by omega), (by rw [upd_ne Dc]; exact hc), ?_⟩
        · rw [List.length_map, List.length_replicate, sizeLine_eq]; omega
        · rw [upd_same, List.replicate_succ', List.map_append]; rfl
      · rintro H5 ⟨B, hc, hD⟩
        refine ⟨D, _, rfl, SqL.of hD, _, rfl, ?_⟩
        have e : (List.replicate ((4 : Int).toNat) true).all id = true := by decide
        rw [e]
        refine iteF ?_
        exact ⟨_, _, rfl, hc⟩
    · rintro σ H2 ⟨v2, v3, rfl, hc⟩
      exact q _

end
end Pot

namespace Pot
open PySem PySem.Spec PyProof.Rows L2
set_option maxHeartbeats 4000000 in
theorem all_mk {l : PySem.W.OpenLaw} {w : World} {K : PySem.W.Frag} {h : Heap} {mg : Str → Option Value} {fa : Addr} (X : K.In h) (G : h.Ns mainGlobals mg) (hfa : mg "law" = some (.ref fa))
    {f1 : Addr} {od1 an1 : Option Addr} {sl1 : Array (Option Value)} {oc1 kV1 dc1 pm1 cd1 ct1 : Value}
    {f2 : Addr} {od2 an2 : Option Addr} {sl2 : Array (Option Value)} {oc2 kV2 dc2 pm2 cd2 ct2 : Value}
    {f3 : Addr} {od3 an3 : Option Addr} {sl3 : Array (Option Value)} {oc3 kV3 dc3 pm3 cd3 ct3 : Value}
    {T3 : Addr} {ocT3 : Value} {odT3 : Option Addr} {slT3 : Array (Option Value)} {nT3 : Nat}
    {tk3_0 : Tok}
    {f4 : Addr} {od4 an4 : Option Addr} {sl4 : Array (Option Value)} {oc4 kV4 dc4 pm4 cd4 ct4 : Value}
    {f5 : Addr} {od5 an5 : Option Addr} {sl5 : Array (Option Value)} {oc5 kV5 dc5 pm5 cd5 ct5 : Value}
    {f6 : Addr} {od6 an6 : Option Addr} {sl6 : Array (Option Value)} {oc6 kV6 dc6 pm6 cd6 ct6 : Value}
    {f7 : Addr} {od7 an7 : Option Addr} {sl7 : Array (Option Value)} {oc7 kV7 dc7 pm7 cd7 ct7 : Value}
    {f8 : Addr} {od8 an8 : Option Addr} {sl8 : Array (Option Value)} {oc8 kV8 dc8 pm8 cd8 ct8 : Value}
    {f9 : Addr} {od9 an9 : Option Addr} {sl9 : Array (Option Value)} {oc9 kV9 dc9 pm9 cd9 ct9 : Value}
    {f10 : Addr} {od10 an10 : Option Addr} {sl10 : Array (Option Value)} {oc10 kV10 dc10 pm10 cd10 ct10 : Value}
    {f11 : Addr} {od11 an11 : Option Addr} {sl11 : Array (Option Value)} {oc11 kV11 dc11 pm11 cd11 ct11 : Value}
    {f12 : Addr} {od12 an12 : Option Addr} {sl12 : Array (Option Value)} {oc12 kV12 dc12 pm12 cd12 ct12 : Value}
    {f13 : Addr} {od13 an13 : Option Addr} {sl13 : Array (Option Value)} {oc13 kV13 dc13 pm13 cd13 ct13 : Value}
    {f14 : Addr} {od14 an14 : Option Addr} {sl14 : Array (Option Value)} {oc14 kV14 dc14 pm14 cd14 ct14 : Value}
    {f15 : Addr} {od15 an15 : Option Addr} {sl15 : Array (Option Value)} {oc15 kV15 dc15 pm15 cd15 ct15 : Value}
    {f16 : Addr} {od16 an16 : Option Addr} {sl16 : Array (Option Value)} {oc16 kV16 dc16 pm16 cd16 ct16 : Value}
    {f17 : Addr} {od17 an17 : Option Addr} {sl17 : Array (Option Value)} {oc17 kV17 dc17 pm17 cd17 ct17 : Value}
    {f18 : Addr} {od18 an18 : Option Addr} {sl18 : Array (Option Value)} {oc18 kV18 dc18 pm18 cd18 ct18 : Value}
    (a1 : PySem.W.nsIn K mainGlobals "colour_row" = some (some (.ref f1))) (l1 : K.lookup f1 = some ⟨oc1, od1, .func (PySem.W.fnOf "colour_row" "colour_row" (defArgs s_colour_row) (defBody s_colour_row) (defScope s_colour_row) .none kV1 dc1 pm1 an1 cd1 ct1), sl1⟩) (c1 : PySem.W.codeIn K cd1 "colour_row" = true) (k1 : PySem.W.keepIn K (.ref f1) = true)
    (a2 : PySem.W.nsIn K mainGlobals "offers_of" = some (some (.ref f2))) (l2 : K.lookup f2 = some ⟨oc2, od2, .func (PySem.W.fnOf "offers_of" "offers_of" (defArgs s_offers_of) (defBody s_offers_of) (defScope s_offers_of) .none kV2 dc2 pm2 an2 cd2 ct2), sl2⟩) (c2 : PySem.W.codeIn K cd2 "offers_of" = true) (k2 : PySem.W.keepIn K (.ref f2) = true)
    (a3 : PySem.W.nsIn K mainGlobals "wants_of" = some (some (.ref f3))) (l3 : K.lookup f3 = some ⟨oc3, od3, .func (PySem.W.fnOf "wants_of" "wants_of" (defArgs s_wants_of) (defBody s_wants_of) (defScope s_wants_of) (.ref T3) kV3 dc3 pm3 an3 cd3 ct3), sl3⟩) (c3 : PySem.W.codeIn K cd3 "wants_of" = true) (k3 : PySem.W.keepIn K (.ref f3) = true)
    (t3 : K.lookup T3 = some ⟨ocT3, odT3, .seq #[.int 60 tk3_0] nT3, slT3⟩)
    (a4 : PySem.W.nsIn K mainGlobals "wanting" = some (some (.ref f4))) (l4 : K.lookup f4 = some ⟨oc4, od4, .func (PySem.W.fnOf "wanting" "wanting" (defArgs s_wanting) (defBody s_wanting) (defScope s_wanting) .none kV4 dc4 pm4 an4 cd4 ct4), sl4⟩) (c4 : PySem.W.codeIn K cd4 "wanting" = true) (k4 : PySem.W.keepIn K (.ref f4) = true)
    (a5 : PySem.W.nsIn K mainGlobals "_law_box" = some (some (.ref f5))) (l5 : K.lookup f5 = some ⟨oc5, od5, .func (PySem.W.fnOf "_law_box" "_law_box" (defArgs s__law_box) (defBody s__law_box) (defScope s__law_box) .none kV5 dc5 pm5 an5 cd5 ct5), sl5⟩) (c5 : PySem.W.codeIn K cd5 "_law_box" = true) (k5 : PySem.W.keepIn K (.ref f5) = true)
    (a6 : PySem.W.nsIn K mainGlobals "_law_take" = some (some (.ref f6))) (l6 : K.lookup f6 = some ⟨oc6, od6, .func (PySem.W.fnOf "_law_take" "_law_take" (defArgs s__law_take) (defBody s__law_take) (defScope s__law_take) .none kV6 dc6 pm6 an6 cd6 ct6), sl6⟩) (c6 : PySem.W.codeIn K cd6 "_law_take" = true) (k6 : PySem.W.keepIn K (.ref f6) = true)
    (a7 : PySem.W.nsIn K mainGlobals "_law_cells" = some (some (.ref f7))) (l7 : K.lookup f7 = some ⟨oc7, od7, .func (PySem.W.fnOf "_law_cells" "_law_cells" (defArgs s__law_cells) (defBody s__law_cells) (defScope s__law_cells) .none kV7 dc7 pm7 an7 cd7 ct7), sl7⟩) (c7 : PySem.W.codeIn K cd7 "_law_cells" = true) (k7 : PySem.W.keepIn K (.ref f7) = true)
    (a8 : PySem.W.nsIn K mainGlobals "_law_names" = some (some (.ref f8))) (l8 : K.lookup f8 = some ⟨oc8, od8, .func (PySem.W.fnOf "_law_names" "_law_names" (defArgs s__law_names) (defBody s__law_names) (defScope s__law_names) .none kV8 dc8 pm8 an8 cd8 ct8), sl8⟩) (c8 : PySem.W.codeIn K cd8 "_law_names" = true) (k8 : PySem.W.keepIn K (.ref f8) = true)
    (a9 : PySem.W.nsIn K mainGlobals "_law_palette" = some (some (.ref f9))) (l9 : K.lookup f9 = some ⟨oc9, od9, .func (PySem.W.fnOf "_law_palette" "_law_palette" (defArgs s__law_palette) (defBody s__law_palette) (defScope s__law_palette) .none kV9 dc9 pm9 an9 cd9 ct9), sl9⟩) (c9 : PySem.W.codeIn K cd9 "_law_palette" = true) (k9 : PySem.W.keepIn K (.ref f9) = true)
    (a10 : PySem.W.nsIn K mainGlobals "_law_wash" = some (some (.ref f10))) (l10 : K.lookup f10 = some ⟨oc10, od10, .func (PySem.W.fnOf "_law_wash" "_law_wash" (defArgs s__law_wash) (defBody s__law_wash) (defScope s__law_wash) .none kV10 dc10 pm10 an10 cd10 ct10), sl10⟩) (c10 : PySem.W.codeIn K cd10 "_law_wash" = true) (k10 : PySem.W.keepIn K (.ref f10) = true)
    (a11 : PySem.W.nsIn K mainGlobals "_law_pot" = some (some (.ref f11))) (l11 : K.lookup f11 = some ⟨oc11, od11, .func (PySem.W.fnOf "_law_pot" "_law_pot" (defArgs s__law_pot) (defBody s__law_pot) (defScope s__law_pot) .none kV11 dc11 pm11 an11 cd11 ct11), sl11⟩) (c11 : PySem.W.codeIn K cd11 "_law_pot" = true) (k11 : PySem.W.keepIn K (.ref f11) = true)
    (a12 : PySem.W.nsIn K mainGlobals "_law_pots" = some (some (.ref f12))) (l12 : K.lookup f12 = some ⟨oc12, od12, .func (PySem.W.fnOf "_law_pots" "_law_pots" (defArgs s__law_pots) (defBody s__law_pots) (defScope s__law_pots) .none kV12 dc12 pm12 an12 cd12 ct12), sl12⟩) (c12 : PySem.W.codeIn K cd12 "_law_pots" = true) (k12 : PySem.W.keepIn K (.ref f12) = true)
    (a13 : PySem.W.nsIn K mainGlobals "_law_team" = some (some (.ref f13))) (l13 : K.lookup f13 = some ⟨oc13, od13, .func (PySem.W.fnOf "_law_team" "_law_team" (defArgs s__law_team) (defBody s__law_team) (defScope s__law_team) .none kV13 dc13 pm13 an13 cd13 ct13), sl13⟩) (c13 : PySem.W.codeIn K cd13 "_law_team" = true) (k13 : PySem.W.keepIn K (.ref f13) = true)
    (a14 : PySem.W.nsIn K mainGlobals "_law_turns_of" = some (some (.ref f14))) (l14 : K.lookup f14 = some ⟨oc14, od14, .func (PySem.W.fnOf "_law_turns_of" "_law_turns_of" (defArgs s__law_turns_of) (defBody s__law_turns_of) (defScope s__law_turns_of) .none kV14 dc14 pm14 an14 cd14 ct14), sl14⟩) (c14 : PySem.W.codeIn K cd14 "_law_turns_of" = true) (k14 : PySem.W.keepIn K (.ref f14) = true)
    (a15 : PySem.W.nsIn K mainGlobals "_law_wants" = some (some (.ref f15))) (l15 : K.lookup f15 = some ⟨oc15, od15, .func (PySem.W.fnOf "_law_wants" "_law_wants" (defArgs s__law_wants) (defBody s__law_wants) (defScope s__law_wants) .none kV15 dc15 pm15 an15 cd15 ct15), sl15⟩) (c15 : PySem.W.codeIn K cd15 "_law_wants" = true) (k15 : PySem.W.keepIn K (.ref f15) = true)
    (a16 : PySem.W.nsIn K mainGlobals "_law_copied" = some (some (.ref f16))) (l16 : K.lookup f16 = some ⟨oc16, od16, .func (PySem.W.fnOf "_law_copied" "_law_copied" (defArgs s__law_copied) (defBody s__law_copied) (defScope s__law_copied) .none kV16 dc16 pm16 an16 cd16 ct16), sl16⟩) (c16 : PySem.W.codeIn K cd16 "_law_copied" = true) (k16 : PySem.W.keepIn K (.ref f16) = true)
    (a17 : PySem.W.nsIn K mainGlobals "_law_right" = some (some (.ref f17))) (l17 : K.lookup f17 = some ⟨oc17, od17, .func (PySem.W.fnOf "_law_right" "_law_right" (defArgs s__law_right) (defBody s__law_right) (defScope s__law_right) .none kV17 dc17 pm17 an17 cd17 ct17), sl17⟩) (c17 : PySem.W.codeIn K cd17 "_law_right" = true) (k17 : PySem.W.keepIn K (.ref f17) = true)
    (a18 : PySem.W.nsIn K mainGlobals "law" = some (some (.ref f18))) (l18 : K.lookup f18 = some ⟨oc18, od18, .func (PySem.W.fnOf "law" "law" (defArgs s_law) (defBody s_law) (defScope s_law) .none kV18 dc18 pm18 an18 cd18 ct18), sl18⟩) (c18 : PySem.W.codeIn K cd18 "law" = true) (k18 : PySem.W.keepIn K (.ref f18) = true)
    (z1 : PySem.W.nsIn K mainGlobals "len" = some none)
    (z2 : PySem.W.nsIn K mainGlobals "divmod" = some none)
    (z3 : PySem.W.nsIn K mainGlobals "range" = some none)
    (z4 : PySem.W.nsIn K mainGlobals "sum" = some none)
    (z5 : PySem.W.nsIn K mainGlobals "all" = some none)
    (z6 : PySem.W.nsIn K mainGlobals "any" = some none)
    (z7 : PySem.W.nsIn K mainGlobals "isinstance" = some none)
    (z8 : PySem.W.nsIn K mainGlobals "str" = some none)
    (z9 : PySem.W.nsIn K mainGlobals "int" = some none)
    (z10 : PySem.W.nsIn K mainGlobals "list" = some none)
    (z11 : PySem.W.nsIn K mainGlobals "tuple" = some none)
    (z12 : PySem.W.nsIn K mainGlobals "bool" = some none)
    (z13 : PySem.W.nsIn K mainGlobals "zip" = some none)
    (z14 : PySem.W.nsIn K mainGlobals "set" = some none)
    (z15 : PySem.W.nsIn K mainGlobals "sorted" = some none)
    (z16 : PySem.W.nsIn K mainGlobals "enumerate" = some none)
    (z17 : PySem.W.nsIn K mainGlobals "repr" = some none)
    (z18 : PySem.W.nsIn K mainGlobals "min" = some none)
    (z19 : PySem.W.nsIn K mainGlobals "max" = some none)
    (z20 : PySem.W.nsIn K mainGlobals "abs" = some none)
    : ∃ fd : FuncData, (∀ (s : Shared) (v : Value), BindsTo s fd ⟨[v], []⟩ [("_law_script", v)]) ∧ ∀ base : Heap, K.In base → base.Ns mainGlobals mg → FnG l.prog w K mg base 9 fa fd ["_law_script"] (spLaw K) := by
  have e := hfa.symm.trans (PySem.W.mg_of X G a18)
  cases e
  have T : Txt mg := ⟨PySem.W.mg_none_of X G z1, PySem.W.mg_none_of X G z2, PySem.W.mg_none_of X G z3, PySem.W.mg_none_of X G z4, PySem.W.mg_none_of X G z5, PySem.W.mg_none_of X G z6, PySem.W.mg_none_of X G z7, PySem.W.mg_none_of X G z8, PySem.W.mg_none_of X G z9, PySem.W.mg_none_of X G z10, PySem.W.mg_none_of X G z11, PySem.W.mg_none_of X G z12, PySem.W.mg_none_of X G z13, PySem.W.mg_none_of X G z14, PySem.W.mg_none_of X G z15, PySem.W.mg_none_of X G z16, PySem.W.mg_none_of X G z17, PySem.W.mg_none_of X G z18, PySem.W.mg_none_of X G z19, PySem.W.mg_none_of X G z20⟩
  have F1 := fun_mk (st := s_colour_row) l1 c1 k1
  have b1 := F1.binds (ps := ["palette", "colour"]) fun _ _ _ _ _ _ us hl => match us, hl with | [_, _], _ => rfl
  have g1 := PySem.W.mg_of X G a1
  have F2 := fun_mk (st := s_offers_of) l2 c2 k2
  have b2 := F2.binds (ps := ["palette", "pots", "colour"]) fun _ _ _ _ _ _ us hl => match us, hl with | [_, _, _], _ => rfl
  have g2 := PySem.W.mg_of X G a2
  have F3 : FunV K "wants_of" s_wants_of [.int 60] f3 _ := ⟨⟨_, _, _, _, _, _, _, _, _, _, rfl, l3, c3, .inr ⟨(by intro z; cases z), T3, _, [_], _, rfl, t3, rfl, .cons (⟨_, rfl⟩) (.nil)⟩, .inl rfl⟩, k3⟩
  obtain ⟨ds3_0, v3_0, b3_0⟩ := FunD.binds1 (ps := ["teams", "colour", "hours"]) F3 3 1 (by intro z; cases z) rfl (fun T kV doc pm an cdv ct us its hu hi => match us, hu, its, hi with | [_, _, _], _, [_], _ => ⟨_, rfl, rfl⟩)
  obtain ⟨ds3_1, v3_1, b3_1⟩ := FunD.binds1 (ps := ["teams", "colour", "hours"]) F3 2 0 (by intro z; cases z) rfl (fun T kV doc pm an cdv ct us its hu hi => match us, hu, its, hi with | [_, _], _, [_], _ => ⟨_, rfl, rfl⟩)
  have g3 := PySem.W.mg_of X G a3
  have F4 := fun_mk (st := s_wanting) l4 c4 k4
  have b4 := F4.binds (ps := ["teams", "colour", "hour"]) fun _ _ _ _ _ _ us hl => match us, hl with | [_, _, _], _ => rfl
  have g4 := PySem.W.mg_of X G a4
  have F5 := fun_mk (st := s__law_box) l5 c5 k5
  have b5 := F5.binds (ps := ["_law_cells_here", "_law_k"]) fun _ _ _ _ _ _ us hl => match us, hl with | [_, _], _ => rfl
  have g5 := PySem.W.mg_of X G a5
  have F6 := fun_mk (st := s__law_take) l6 c6 k6
  have b6 := F6.binds (ps := ["_law_box_here", "_law_many"]) fun _ _ _ _ _ _ us hl => match us, hl with | [_, _], _ => rfl
  have g6 := PySem.W.mg_of X G a6
  have F7 := fun_mk (st := s__law_cells) l7 c7 k7
  have b7 := F7.binds (ps := ["_law_script", "_law_most"]) fun _ _ _ _ _ _ us hl => match us, hl with | [_, _], _ => rfl
  have g7 := PySem.W.mg_of X G a7
  have F8 := fun_mk (st := s__law_names) l8 c8 k8
  have b8 := F8.binds (ps := ["_law_box_here", "_law_many"]) fun _ _ _ _ _ _ us hl => match us, hl with | [_, _], _ => rfl
  have g8 := PySem.W.mg_of X G a8
  have F9 := fun_mk (st := s__law_palette) l9 c9 k9
  have b9 := F9.binds (ps := ["_law_box_here", "_law_most"]) fun _ _ _ _ _ _ us hl => match us, hl with | [_, _], _ => rfl
  have g9 := PySem.W.mg_of X G a9
  have F10 := fun_mk (st := s__law_wash) l10 c10 k10
  have b10 := F10.binds (ps := ["_law_palette_here", "_law_ahead", "_law_behind"]) fun _ _ _ _ _ _ us hl => match us, hl with | [_, _, _], _ => rfl
  have g10 := PySem.W.mg_of X G a10
  have F11 := fun_mk (st := s__law_pot) l11 c11 k11
  have b11 := F11.binds (ps := ["_law_box_here", "_law_palette_here", "_law_counts"]) fun _ _ _ _ _ _ us hl => match us, hl with | [_, _, _], _ => rfl
  have g11 := PySem.W.mg_of X G a11
  have F12 := fun_mk (st := s__law_pots) l12 c12 k12
  have b12 := F12.binds (ps := ["_law_box_here", "_law_palette_here", "_law_most"]) fun _ _ _ _ _ _ us hl => match us, hl with | [_, _, _], _ => rfl
  have g12 := PySem.W.mg_of X G a12
  have F13 := fun_mk (st := s__law_team) l13 c13 k13
  have b13 := F13.binds (ps := ["_law_box_here", "_law_palette_here", "_law_pots_here", "_law_name"]) fun _ _ _ _ _ _ us hl => match us, hl with | [_, _, _, _], _ => rfl
  have g13 := PySem.W.mg_of X G a13
  have F14 := fun_mk (st := s__law_turns_of) l14 c14 k14
  have b14 := F14.binds (ps := ["_law_palette_here", "_law_pots_here", "_law_colour"]) fun _ _ _ _ _ _ us hl => match us, hl with | [_, _, _], _ => rfl
  have g14 := PySem.W.mg_of X G a14
  have F15 := fun_mk (st := s__law_wants) l15 c15 k15
  have b15 := F15.binds (ps := ["_law_teams", "_law_colour", "_law_hours"]) fun _ _ _ _ _ _ us hl => match us, hl with | [_, _, _], _ => rfl
  have g15 := PySem.W.mg_of X G a15
  have F16 := fun_mk (st := s__law_copied) l16 c16 k16
  have b16 := F16.binds (ps := ["_law_thing"]) fun _ _ _ _ _ _ us hl => match us, hl with | [_], _ => rfl
  have g16 := PySem.W.mg_of X G a16
  have F17 := fun_mk (st := s__law_right) l17 c17 k17
  have b17 := F17.binds (ps := ["_law_box_here"]) fun _ _ _ _ _ _ us hl => match us, hl with | [_], _ => rfl
  have g17 := PySem.W.mg_of X G a17
  have F18 := fun_mk (st := s_law) l18 c18 k18
  refine ⟨PySem.W.fnOf "law" "law" (defArgs s_law) (defBody s_law) (defScope s_law) .none kV18 dc18 pm18 an18 cd18 ct18, fun s v => .of_eq rfl, fun base _ _ => ?_⟩
  have c__law_cells : Cl l.prog w K mg base 1 "_law_cells" ((spCells K)) := ⟨_, _, _, ok_cells F7 T, g7, F7.kp, b7⟩
  have c__law_box : Cl l.prog w K mg base 1 "_law_box" ((spBox K)) := ⟨_, _, _, ok_box F5 T, g5, F5.kp, b5⟩
  have c__law_take : Cl l.prog w K mg base 1 "_law_take" (spTake) := ⟨_, _, _, ok_take F6, g6, F6.kp, b6⟩
  have c__law_names : Cl l.prog w K mg base 2 "_law_names" (spNames) := ⟨_, _, _, ok_names F8 T c__law_take, g8, F8.kp, b8⟩
  have c__law_palette : Cl l.prog w K mg base 3 "_law_palette" ((spPalette K)) := ⟨_, _, _, ok_palette F9 T c__law_take c__law_names, g9, F9.kp, b9⟩
  have c__law_wash : Cl l.prog w K mg base 1 "_law_wash" ((spLWash K)) := ⟨_, _, _, ok_lwash F10, g10, F10.kp, b10⟩
  have c__law_pot : Cl l.prog w K mg base 2 "_law_pot" ((spPot K)) := ⟨_, _, _, ok_pot F11 T c__law_take c__law_wash, g11, F11.kp, b11⟩
  have c__law_pots : Cl l.prog w K mg base 3 "_law_pots" ((spPots K)) := ⟨_, _, _, ok_pots F12 T c__law_take c__law_pot, g12, F12.kp, b12⟩
  have c__law_team : Cl l.prog w K mg base 2 "_law_team" ((spTeam K)) := ⟨_, _, _, ok_team F13 T c__law_take, g13, F13.kp, b13⟩
  have c__law_copied : Cl l.prog w K mg base 7 "_law_copied" (spCopied K 6) := ⟨_, _, _, ok_copied (k0 := 0) F16 T b16 g16 6, g16, F16.kp, b16⟩
  have c__law_turns_of : Cl l.prog w K mg base 1 "_law_turns_of" ((spOffers K)) := ⟨_, _, _, ok_turnsof F14 T, g14, F14.kp, b14⟩
  have c__law_wants : Cl l.prog w K mg base 1 "_law_wants" ((spWants K)) := ⟨_, _, _, ok_lwants F15 T, g15, F15.kp, b15⟩
  have c_colour_row : Cl l.prog w K mg base 1 "colour_row" ((spColour K)) := ⟨_, _, _, ok_colour F1, g1, F1.kp, b1⟩
  have c_offers_of : Cl l.prog w K mg base 2 "offers_of" ((spOffers K)) := ⟨_, _, _, ok_offers F2 T c_colour_row, g2, F2.kp, b2⟩
  have c_wanting : Cl l.prog w K mg base 1 "wanting" ((spWanting K)) := ⟨_, _, _, ok_wanting F4 T, g4, F4.kp, b4⟩
  have d_wants_of : ClD l.prog w K mg base 2 "wants_of" [.int 60] ((spWants K)) := ⟨_, _, _, _, ok_wantsof F3 T c_wanting, g3, F3.kp, b3_1, v3_1⟩
  have e_wants_of : ClD l.prog w K mg base 2 "wants_of" [] ((spWants K)) := ⟨_, _, _, _, ok_wantsof F3 T c_wanting, g3, F3.kp, b3_0, v3_0⟩
  have c__law_right : ClG l.prog w K mg base 8 "_law_right" [] (spRight) := ⟨_, _, _, [], ok_right F17 T c__law_take c__law_names c__law_palette c__law_pots c__law_team c__law_copied c__law_turns_of c__law_wants c_offers_of e_wants_of d_wants_of, g17, F17.kp, b17, .nil⟩
  exact ok_law F18 T c__law_cells c__law_box c__law_right
end Pot
open PySem PySem.W PyProof.Rows
set_option maxRecDepth 100000 in
set_option maxHeartbeats 0 in
theorem PySem.Challenge.cw_potround_k40_offers_and_wants_of_days_holds : PySem.Challenge.rw_potround_k40_offers_and_wants_of_days.Holds := by
  w_on; o_law; k_head; (case hw => w_witness2)
  k_fill
  refine Pot.walkG (l := PySem.Challenge.rw_potround_k40_offers_and_wants_of_days) (n := 63) (k := 9) (x := "_law_script") (sp := fun w => Pot.spLaw _) rfl (by decide) rfl ⟨rfl, by decide, by decide⟩ (fun w h Y => PySem.W.kIn_of Y) ?F (fun _ _ a ns hl _ hS => ⟨a, ns, rfl, hS, hl, fun _ => rfl⟩)
  case F =>
    intro w mg fa h KX G hmg
    refine' Pot.all_mk KX G hmg ?a1 ?l1 ?c1 ?k1 ?a2 ?l2 ?c2 ?k2 ?a3 ?l3 ?c3 ?k3 ?t3 ?a4 ?l4 ?c4 ?k4 ?a5 ?l5 ?c5 ?k5 ?a6 ?l6 ?c6 ?k6 ?a7 ?l7 ?c7 ?k7 ?a8 ?l8 ?c8 ?k8 ?a9 ?l9 ?c9 ?k9 ?a10 ?l10 ?c10 ?k10 ?a11 ?l11 ?c11 ?k11 ?a12 ?l12 ?c12 ?k12 ?a13 ?l13 ?c13 ?k13 ?a14 ?l14 ?c14 ?k14 ?a15 ?l15 ?c15 ?k15 ?a16 ?l16 ?c16 ?k16 ?a17 ?l17 ?c17 ?k17 ?a18 ?l18 ?c18 ?k18 ?z1 ?z2 ?z3 ?z4 ?z5 ?z6 ?z7 ?z8 ?z9 ?z10 ?z11 ?z12 ?z13 ?z14 ?z15 ?z16 ?z17 ?z18 ?z19 ?z20
    (case a1 => k_is)
    (case l1 => k_is)
    (case c1 => k_is)
    (case k1 => k_is)
    (case a2 => k_is)
    (case l2 => k_is)
    (case c2 => k_is)
    (case k2 => k_is)
    (case a3 => k_is)
    (case l3 => k_is)
    (case c3 => k_is)
    (case k3 => k_is)
    (case t3 => k_is)
    (case a4 => k_is)
    (case l4 => k_is)
    (case c4 => k_is)
    (case k4 => k_is)
    (case a5 => k_is)
    (case l5 => k_is)
    (case c5 => k_is)
    (case k5 => k_is)
    (case a6 => k_is)
    (case l6 => k_is)
    (case c6 => k_is)
    (case k6 => k_is)
    (case a7 => k_is)
    (case l7 => k_is)
    (case c7 => k_is)
    (case k7 => k_is)
    (case a8 => k_is)
    (case l8 => k_is)
    (case c8 => k_is)
    (case k8 => k_is)
    (case a9 => k_is)
    (case l9 => k_is)
    (case c9 => k_is)
    (case k9 => k_is)
    (case a10 => k_is)
    (case l10 => k_is)
    (case c10 => k_is)
    (case k10 => k_is)
    (case a11 => k_is)
    (case l11 => k_is)
    (case c11 => k_is)
    (case k11 => k_is)
    (case a12 => k_is)
    (case l12 => k_is)
    (case c12 => k_is)
    (case k12 => k_is)
    (case a13 => k_is)
    (case l13 => k_is)
    (case c13 => k_is)
    (case k13 => k_is)
    (case a14 => k_is)
    (case l14 => k_is)
    (case c14 => k_is)
    (case k14 => k_is)
    (case a15 => k_is)
    (case l15 => k_is)
    (case c15 => k_is)
    (case k15 => k_is)
    (case a16 => k_is)
    (case l16 => k_is)
    (case c16 => k_is)
    (case k16 => k_is)
    (case a17 => k_is)
    (case l17 => k_is)
    (case c17 => k_is)
    (case k17 => k_is)
    (case a18 => k_is)
    (case l18 => k_is)
    (case c18 => k_is)
    (case k18 => k_is)
    (case z1 => k_is)
    (case z2 => k_is)
    (case z3 => k_is)
    (case z4 => k_is)
    (case z5 => k_is)
    (case z6 => k_is)
    (case z7 => k_is)
    (case z8 => k_is)
    (case z9 => k_is)
    (case z10 => k_is)
    (case z11 => k_is)
    (case z12 => k_is)
    (case z13 => k_is)
    (case z14 => k_is)
    (case z15 => k_is)
    (case z16 => k_is)
    (case z17 => k_is)
    (case z18 => k_is)
    (case z19 => k_is)
    (case z20 => k_is)
