import PyProof.Rows.All
import Wide.All
import OpenK.AllK
import Wide.FinOn
import HandS.ForMost
import PyProof.ReprRoads
import HandS.FStrTup
import HandS.Strs
import HandS.SetFor
import HandS.Zip
import HandS.ForExc
import HandS.IsInst
import HandS.Evl
import HandS.Conv
import HandS.Flow
import HandS.Style
import HandS.Sort
import HandS.Walk
import HandS.Codes
import HandS.StrMore
import HandS.TupAny
import HandS.Defaults
import KE.KEqSeq
import HandS.WideBits
import HandS.More
import PyProof.SetRoads
import HandS.Deep
import PyProof.StrBlock2
import KE.GoesNew
import KE.SortData
import PyProof.Rows.StrCase
import PyProof.Rows.ReprOcc
import PyProof.FitsInt
import PyProof.Rows.IntBool
import PyProof.CallStr
import PyProof.Rows.FactsU_neg
import KE.KRevSl
import PySem.Challenge.RW_potround_k54_what_deeds_are
set_option Elab.async false
set_option linter.all false
set_option maxRecDepth 100000
namespace Pot
open PySem PySem.Spec PyProof.Rows L2
/-! ### defs that are called where no text of a thing is under way -/
structure FnG (P : Program) (w : World) (K : PySem.W.Frag) (mg : Str → Option Value) (base : Heap) (k : Nat) (f : Addr) (fd : FuncData) (ps : List Str) (sp : Sp) : Prop where
  many : ∀ vs H Q E, sp vs H Q E → vs.length = ps.length
  does : ∀ (A : Around) (outer : List Env) (s : Shared) (H : Hp) (args : Args) (us : List Value) (vs : List V) (Q : VK), A.guards = some [] → Room k A → Env0 P w K mg base A outer s H →
    BindsTo s fd args (ps.zip us) → Vals vs us → sp vs H Q E0 → codeAny (model P w) A (.call (.ref f) args) (CR CX0 outer P w H s Q E0) s
section
variable {P : Program} {w : World} {K : PySem.W.Frag} {mg : Str → Option Value} {base : Heap}
theorem FnG.of {k : Nat} {f : Addr} {fd : FuncData} {ps : List Str} {sp : Sp} (F : FnOk P w K mg base CX0 k f fd ps sp) : FnG P w K mg base k f fd ps sp :=
  ⟨F.len, fun A outer s H args us vs Q _ hr e hb r h => F.run A outer s H args us vs Q E0 hr e hb r h⟩
theorem okG {x qual : Str} {st : Stmt} {f : Addr} {fd : FuncData} {N ps : List Str} {k : Nat} {sp : Sp} (F : Fun K x qual st f fd) (S : FnScope N ps (defScope st)) (many : ∀ vs H Q E, sp vs H Q E → vs.length = ps.length)
    (body : ∀ (cdv : Value) (A : Around) (outer : List Env) (s : Shared) (H : Hp) (vs : List V) (Q : VK), A.guards = some [] → Room k (A.deeper (envOfC qual (defScope st) s.heap.objs.size f cdv)) → sp vs H Q E0 →
      ∃ t, PSs (cxOf CX0 P w K mg base N qual (defScope st) f cdv A outer s H E0).nox (defBody st) t ∧ t { nx := fun _ H' => Q .non H', rt := Q } (start N vs) H) : FnG P w K mg base (k + 1) f fd ps sp := by
  obtain ⟨oc, od, kV, doc, pm, an, cdv, ct, osl, rfl, at_, code⟩ := F.ex
  refine ⟨many, fun A outer s H args us vs Q gd room e0 bind rel want => ?_⟩
  have kin : K.In s.heap := e0.mod.kin.keeps fun b o e => (e0.bs b o e).1
  have nolim : s.heap.NoLimit := e0.mod.nolimit.keeps fun b o e => (e0.bs b o e).1
  refine codeAny_call_function room.depth (kin _ _ at_) rfl S.co S.gen rfl (PySem.W.codeRec_of kin code) (bind _ _ _ _ (wpAny_newFunctionEnv_cells S.kind (fun y hy => ?_) fun env he s1 x => ?_))
  · obtain ⟨n, v⟩ := y
    exact (S.par n (List.of_mem_zip hy).1).imp id fun q => ⟨q, PySem.W.cellsFrom_some _ _ _ (.inl q)⟩
  · subst he
    obtain ⟨t, ht, hq⟩ := body cdv A outer s H vs Q gd (room.deeper _) want
    have I : Inv (cxOf CX0 P w K mg base N qual (defScope st) f cdv A outer s H E0) [] (start N vs) H s1 := inv_start S room.hd e0 (many _ _ _ _ want) rel x
    refine ⟨nolim.keeps x.toInCall.keep, codeAny_func (wpAny_mono (ht.nox.run [] s1 (start N vs) H _ I hq) (fun fl s' hs => ?_) fun _ _ z => z)⟩
    cases fl with
    | ret u =>
      obtain ⟨v, σ', H', J, rv, q⟩ := hs
      exact ⟨v, H', J.os, J.bare, J.base, J.hok, rv, q⟩
    | next =>
      obtain ⟨σ', H', J, q⟩ := hs
      exact ⟨V.non, H', J.os, J.bare, J.base, J.hok, rfl, q⟩
    | brk => obtain ⟨_, _, _, q⟩ := hs; exact q.elim
    | cont => obtain ⟨_, _, _, q⟩ := hs; exact q.elim
/-! calls -/
/-- a def that may be called by its name where no text is under way -/
def ClG (P : Program) (w : World) (K : PySem.W.Frag) (mg : Str → Option Value) (base : Heap) (k : Nat) (x : Str) (ds : List V) (sp : Sp) : Prop :=
  ∃ (f : Addr) (fd : FuncData) (ps : List Str) (dus : List Value), FnG P w K mg base k f fd ps sp ∧ mg x = some (.ref f) ∧ PySem.W.keepIn K (.ref f) = true ∧ Binds K fd ps dus ∧ Vals ds dus
theorem pe_clG {X : Cx} {k j : Nat} {x : Str} {ds : List V} {sp : Sp} {e : Expr} {es : List Expr} {t : TA} {p pos : Pos} (c : ClG X.prog X.w X.K X.mg X.base k x ds sp) (hr : Room j X.A) (gd : X.A.guards = some []) (hk : k ≤ j) (hg : Gl X x) (ha : PA X (e :: es) t)
    (hdb : (x == ("__debug__" : Str)) = false := by decide) (he : starEach (e :: es) X.env = (false, eval e X.env) :: starEach es X.env := by rfl) (hpl : (backTo pos (starEach es X.env)).any (·.1) = false := by rfl) :
    PE X (.Call (.Name x p) (e :: es) [] pos) (tCall sp ds E0 t) := by
  obtain ⟨f, fd, ps, dus, G, named, kept, binds, dv⟩ := c
  refine ⟨fun pins s σ H Q I h => wpAny_Call_Name_kw (ld_glob I hg named (PySem.W.callWith_K (h₀ := X.base) I.ok.mod.kin kept (thn (ha.run pos pins s σ H _ I h) fun us s1 hh => ?_) he hpl) hdb)⟩
  obtain ⟨vs, H1, I1, r, q⟩ := hh
  refine ⟨I1.kIn, ?_⟩
  have rel := r.append dv
  have n : (us ++ dus).length = ps.length := rel.length ▸ G.many _ _ _ _ q
  refine wpAny_call (codeAny_mono (G.does X.A X.stack s1 H1 ⟨us, []⟩ (us ++ dus) (vs ++ ds) Q gd (hr.mono hk) I1.env0 (binds s1 us I1.kIn n) rel q) fun res s' hq => ?_)
  rcases res with _ | fl
  case error => exact (show False from hq).elim
  cases fl <;> first | exact I1.after hq | exact (show False from hq).elim
/-! the law's own call -/
theorem law_callG {mb : Str → Option Value} {k : Nat} {fa a : Addr} {fd : FuncData} {x : Str} {sp : Sp} {s : Shared} {vs : List Value} {ns : List Int} (kin : K.In s.heap) (glob : s.heap.Ns mainGlobals mg) (blt : s.heap.Ns builtinsNs mb)
    (boot : ∀ y : Str, y ≠ "__name__" → mb y = bootBuiltins y) (lim : s.heap.NoLimit) (gens : s.gens = #[]) (obj : s.heap.get? a = some { cls := .type "list", data := .seq vs.toArray }) (whole : IntsAre vs ns) (small : ns.length ≤ sizeLine) (room : Room k callerA)
    (F : ∀ base : Heap, K.In base → base.Ns mainGlobals mg → FnG P w K mg base k fa fd [x] sp) (bind : ∀ (s : Shared) (u : Value), BindsTo s fd ⟨[u], []⟩ [(x, u)])
    (want : ∀ H : Hp, Only H → SqL K H a (ns.map V.int) → sp [.ref a] H (fun v _ => v = .bl true) E0) :
    codeAny (model P w) callerA (.call (.ref fa) ⟨[.ref a], []⟩) (fun r s' => r = .ok (.ret (.bool true)) ∧ OldK s.heap s'.heap ∧ s'.os = s.os ∧ AllBare s'.gens) s := by
  have rv := vals_ints whole
  have nv := whole.length
  -- which heap is told: the script, locked, where it isn't one of the written part
  obtain ⟨H, only, seq, fine, alone, apart⟩ : ∃ H : Hp, Only H ∧ SqL K H a (ns.map V.int) ∧ HOk P w H s.heap ∧ (∀ b u, H b = some u → b = a) ∧ (∀ u, H a = some u → K.lookup a = none) := by
    cases lk : K.lookup a with
    | some o =>
      have same := kin a o lk
      rw [obj] at same
      cases same
      exact ⟨fun _ => none, fun _ => .inl rfl, .inr ⟨_, vs.toArray, _, lk, rfl, rfl, rfl, by rw [List.size_toArray, nv]; exact small, by simpa using rv⟩, (fun b u z => nomatch (show (none : Option HO) = some u from z)), (fun b u z => nomatch (show (none : Option HO) = some u from z)), fun u z => nomatch (show (none : Option HO) = some u from z)⟩
    | none =>
      have hit : ∀ b u, (if b = a then some (HO.frz { cls := .type "list", data := .seq vs.toArray } (.lst (ns.map V.int))) else none) = some u → b = a ∧ u = .frz { cls := .type "list", data := .seq vs.toArray } (.lst (ns.map V.int)) := fun b u z => by
        split at z
        · cases z; exact ⟨‹_›, rfl⟩
        · cases z
      refine ⟨fun b => if b = a then some (.frz { cls := .type "list", data := .seq vs.toArray } (.lst (ns.map V.int))) else none, fun b => ?_, .inl (.inr ⟨_, if_pos rfl⟩), fun b u z => ?_, fun b u z => (hit b u z).1, fun _ _ => rfl⟩
      · by_cases hb : b = a
        · exact .inr ⟨_, _, if_pos hb⟩
        · exact .inl (if_neg hb)
      · obtain ⟨rfl, rfl⟩ := hit b u z
        exact ⟨obj, by rw [List.length_map]; exact small, vs, _, rv, obj⟩
  have hid : ∀ {b : Addr} {o : Obj}, s.heap.get? b = some o → (b = a → H a = none) → (hidT s.heap H).get? b = some o := fun {b o} e n => hidT_get e (by
    cases q : H b with
    | none => rfl
    | some u =>
      have e2 := alone b u q
      subst e2
      rw [n rfl] at q
      cases q)
  have kinB : K.In (hidT s.heap H) := fun b o e => hid (kin b o e) fun z => by
    subst z
    cases q : H b with
    | none => rfl
    | some u => rw [apart u q] at e; cases e
  have ns_ : ∀ {b : Addr} {m : Str → Option Value}, s.heap.Ns b m → (hidT s.heap H).Ns b m := fun {b m} h => by
    obtain ⟨o, es, ep, e, d, r⟩ := h
    refine ⟨o, es, ep, hid e fun z => ?_, d, r⟩
    subst z
    rw [obj] at e
    cases e
    exact nomatch (show Data.seq vs.toArray _ = Data.dict es ep from d)
  have md : Mod K mg (hidT s.heap H) := ⟨kinB, ns_ glob, ⟨mb, ns_ blt, boot⟩, by obtain ⟨mc, h1, h2⟩ := lim; exact ⟨mc, ns_ h1, h2⟩⟩
  have e0 : Env0 P w K mg (hidT s.heap H) callerA [] s H := ⟨rfl, md, fun b o e => of_hidT e, Nat.le_of_eq (hidT_size _ _), trivial, (fun b hb => nomatch (show b ∈ ([] : List Addr) from hb)), fine, .of_eq gens⟩
  refine codeAny_mono ((F _ kinB (ns_ glob)).does callerA [] s H ⟨[.ref a], []⟩ [.ref a] [.ref a] _ rfl room e0 (bind s (.ref a)) (.cons rfl .nil) (want H only seq)) fun res s' h => ?_
  rcases res with _ | fl
  case error => exact (show False from h).elim
  cases fl <;> first | exact (show False from h).elim | skip
  obtain ⟨v, H', os, bare, un, fine', rel, q⟩ := h
  cases (show v = .bl true from q)
  cases (show _ = Value.bool true from rel)
  refine ⟨rfl, OldK.of_keep fun b o e => ?_, os, bare⟩
  cases q : H b with
  | none => exact un.keep b o e q (fun z => nomatch (show b ∈ ([] : List Addr) from z)) (fun z => nomatch z)
  | some u =>
    rcases only b with z | ⟨ob, xs, z⟩
    · rw [q] at z; cases z
    · obtain ⟨e1, _⟩ := fine b _ z
      obtain ⟨e2, _⟩ := fine' b _ (un.frzs b ob _ z)
      rw [e] at e1; cases e1
      exact e2
end
theorem walkG {l : PySem.W.OpenLaw} {n k : Nat} {q : Program} {loose : List Str} {XP : (Str → Option Value) → Heap → Prop} {YP : World → Heap → Prop} {d : DefRec} {K : Params → PySem.W.Frag} {sp : World → Sp} {x : Str}
    (most : l.most = some n) (fits : n ≤ sizeLine) (plain : d.params.defaults = []) (room : Room k callerA) (part : ∀ (w : World) (h : Heap), YP w h → (K w.params).In h)
    (F : ∀ (w : World) (mg : Str → Option Value) (fa : Addr) (h : Heap), (K w.params).In h → h.Ns mainGlobals mg → mg d.name = some (.ref fa) →
      ∃ fd : FuncData, (∀ (s : Shared) (u : Value), BindsTo s fd ⟨[u], []⟩ [(x, u)]) ∧ ∀ base : Heap, (K w.params).In base → base.Ns mainGlobals mg → FnG l.prog w (K w.params) mg base k fa fd [x] (sp w))
    (want : ∀ (w : World) (H : Hp) (a : Addr) (ns : List Int), ns.length ≤ n → Only H → SqL (K w.params) H a (ns.map V.int) → sp w [.ref a] H (fun v _ => v = .bl true) E0) :
    PySem.W.WalkO q loose XP YP l.row.toRowW d [] (fun f vs => PySem.call f vs) := by
  refine Att.attach_call most plain fun w s₀ s₁ mg mb fa o pm cd doc a vs ns G Y _ _ _ named obj whole len gens => ?_
  obtain ⟨fd, bind, hF⟩ := F w mg fa _ (part w _ Y) G.T.g named
  exact law_callG (part w _ Y) G.T.g G.T.b G.T.builtins G.T.nolimit gens obj whole (Nat.le_trans len fits) room hF bind fun H only seq => want w H a ns len only seq
end Pot

namespace Pot
open PySem PySem.Spec PyProof.Rows L2
/-! ### repr of what is made of numbers, texts, truths, None, lists and tuples -/
section
variable {K : PySem.W.Frag}
mutual
theorem dp_noDict {H : Hp} : ∀ {v : V} {d : PyData}, Dp K H v d → d.hasDict = false
  | _, _, .non => rfl
  | _, _, .bl _ => rfl
  | _, _, .int _ => rfl
  | _, _, .str _ => rfl
  | _, _, .lst _ a => dpAll_noDict a
  | _, _, .tup _ a => dpAll_noDict a
theorem dpAll_noDict {H : Hp} : ∀ {vs : List V} {ds : List PyData}, DpAll K H vs ds → PyData.hasDictAll ds = false
  | _, _, .nil => rfl
  | _, _, .cons h t => by
    show (PyData.hasDict _ || PyData.hasDictAll _) = false
    rw [dp_noDict h, dpAll_noDict t]
    rfl
end
/-- how long its text may be, told roughly -/
def costAll : List PyData → Nat
  | [] => 0
  | x :: xs => cost x + 2 + costAll xs
where cost : PyData → Nat
  | .none => 4
  | .bool _ => 5
  | .int _ => 1921
  | .str x => 10 * x.length + 2
  | .list xs => costAll xs + 3
  | .tuple xs => costAll xs + 3
  | .dict _ => 0
/-- what repr is asked of here: its texts of plain signs -/
def fineAll : List PyData → Prop
  | [] => True
  | x :: xs => fine x ∧ fineAll xs
where fine : PyData → Prop
  | .none => True
  | .bool _ => True
  | .int i => i.natAbs.log2 < 1920
  | .str x => ∀ c ∈ x.cps.toList, c < 16 ^ 8
  | .list xs => fineAll xs
  | .tuple xs => fineAll xs
  | .dict _ => False
theorem from_len : ∀ (ts : List Str) (k : Nat) (acc : Str), (textFrom k acc ts).length ≤ acc.length + piled ts
  | [], k, acc => by rw [piled_nil]; exact Nat.le_refl _
  | t :: r, k, acc => by
    have ih := from_len r (k + 1)
    rw [piled_cons]
    unfold textFrom
    refine Nat.le_trans (ih _) ?_
    rw [strLen_append]
    split
    · rw [strLen_append]
      have e : (", " : Str).length = 2 := by decide +kernel
      omega
    · rw [strLen_append]
      have e : ("" : Str).length = 0 := by decide +kernel
      omega
theorem list_len (ts : List Str) : (listText ts).length ≤ piled ts + 2 := by
  unfold listText
  rw [strLen_append]
  have h := from_len ts 0 "["
  have e1 : ("[" : Str).length = 1 := by decide +kernel
  have e2 : ("]" : Str).length = 1 := by decide +kernel
  omega
mutual
theorem shown_len : ∀ d : PyData, fineAll.fine d → d.shown.length ≤ costAll.cost d
  | .none, _ => by decide +kernel
  | .bool b, _ => by cases b <;> decide +kernel
  | .int i, h => PyProof.Rows.int_text_len_1921 h
  | .str x, h => StrLaws.reprText_len x h
  | .list xs, h => Nat.le_trans (list_len _) (Nat.add_le_add (piled_len xs h) (by decide))
  | .tuple xs, h => Nat.le_trans (fmt_text _) (Nat.add_le_add (piled_len xs h) (by decide))
  | .dict _, h => h.elim
theorem piled_len : ∀ ds : List PyData, fineAll ds → piled (PyData.shownAll ds) ≤ costAll ds
  | [], _ => Nat.le_refl _
  | x :: xs, h => by
    have h1 := shown_len x h.1
    have h2 := piled_len xs h.2
    show piled (x.shown :: PyData.shownAll xs) ≤ costAll.cost x + 2 + costAll xs
    rw [piled_cons]
    omega
end
mutual
theorem fine_show : ∀ d : PyData, fineAll.fine d → d.showable = true
  | .none, _ => rfl
  | .bool _, _ => rfl
  | .int i, h => decide_eq_true h
  | .str _, _ => rfl
  | .list xs, h => fineAll_show xs h
  | .tuple xs, h => fineAll_show xs h
  | .dict _, h => h.elim
theorem fineAll_show : ∀ ds : List PyData, fineAll ds → PyData.showableAll ds = true
  | [], _ => rfl
  | x :: xs, h => by
    show (PyData.showable x && PyData.showableAll xs) = true
    rw [fine_show x h.1, fineAll_show xs h.2]
    rfl
end
end
section
variable {X : Cx}
def rRepr (K : PySem.W.Frag) : List V → Hp → VK → Prop := fun xs H Q => ∃ (a : Addr) (d : PyData), xs = [V.ref a] ∧ Dp K H (.ref a) d ∧ fineAll.fine d ∧ d.depth ≤ 60 ∧ costAll.cost d ≤ 16777216 ∧ Q (.str d.shown) H
theorem cr_repr (gd : X.A.guards = some []) (hu : X.A.units + 64 < cLine) : CallR X (.builtin "repr") (rRepr X.K) := by
  intro pins s σ H vs us Q I r h
  obtain ⟨a, d, rfl, dp, sh, dep, sz, q⟩ := h
  rw [Vals.ref1 r]
  obtain ⟨as, rd⟩ := Dp.reads I d (.ref a) (.ref a) dp rfl
  refine repr_of_reads' rd (fine_show d sh) (fun z => ?_) gd (by omega) (fun _ _ e => e) (fun h' u tk k => ⟨.str d.shown, H, I.kept k, ⟨u, rfl⟩, q⟩) (Nat.le_trans (shown_len d sh) (by rw [sizeLine_eq]; exact sz))
  rw [dp_noDict dp] at z
  cases z
end
end Pot

namespace Pot
open PySem PySem.Spec PyProof.Rows L2 PySem.W PySem.Calls
/-! ### set(xs) of a list of ints -/
/-- the object that set() makes first -/
abbrev emptySet (w : World) : Obj := { cls := .type "set", dict := none, data := .set #[] 0 (.fresh 0 0 (!w.params.followText "set-order")) }
section
variable {P : Program} {w : World} {A : Around} {E : Value → Shared → Prop} {s : Shared}
/-- what is wanted behind the filling -/
def Filled (w : World) (s : Shared) (ns : List Int) (s' : Shared) : Prop := ∃ h' tk c, s' = { s with heap := h', toks := tk } ∧ SetR w h' s.heap.objs.size (fun j => decide (j ∈ ns)) c ∧ c ≤ ns.length ∧ ∀ b o, s.heap.get? b = some o → h'.get? b = some o
set_option maxHeartbeats 4000000 in
theorem call_set_li {l : Addr} {items : Array Value} (ns : List Int) {Q : Value → Shared → Prop} (hh : A.handled = none) (hl : s.heap.IsList l items) (hit : IntsAre items.toList ns) (hb : ns.length + 1 < scanBound)
    (hq : ∀ s', Filled w s ns s' → Q (.ref s.heap.objs.size) s') : wpAny (model P w) A (call (.type "set") [.ref l]) Q E s := by
  have size : items.size = ns.length := by
    rw [← Array.length_toList]; exact IntsAre.length hit
  have made := F.called_set.made
  have below := F.called_set.sub
  obtain ⟨_, _, chain⟩ := F.called_set.mro
  have nt := F.called_set.notType
  have cc := F.called_set.canCreate
  have ck := F.typeCall_set_1 (.ref l)
  refine wpAny_call (codeAny_of_tree (show wpAny _ _ (callAny (.type "set") _) _ _ _ from wpAny_pure ⟨Code.quiet_builtin _ (by decide +kernel), codeAny_builtin F.entry_type_call ?_⟩))
  rw [Around.under_plain (weight_type_call_type "set" [.ref l] []) rfl]
  repeat (any_goals (first | assumption | wp_step))
  refine codeAny_mono (code_set_led1 (.ref l) (E := E) (Q₁ := fun obj z => obj = .ref s.heap.objs.size ∧ z = { s with heap := s.heap.push (emptySet w) }) ⟨rfl, rfl⟩) fun r z hr => ?_
  rcases r with _ | fl
  case error => exact hr
  cases fl <;> first | exact hr.elim | skip
  obtain ⟨rfl, rfl⟩ := hr
  have at0 : (s.heap.push (emptySet w)).get? s.heap.objs.size = some (emptySet w) := Heap.get?_push_size _ rfl
  have ty0 : Shared.TypeIs { s with heap := s.heap.push (emptySet w) } (.ref s.heap.objs.size) "set" := ⟨_, at0, rfl⟩
  have li := F.called_set.init.lookup
  have bi := F.called_set.init.bind (.ref s.heap.objs.size)
  repeat (any_goals (first | assumption | wp_step))
  refine codeAny_mono (codeAny_call_builtin (R := wants (fun r z => r = .none ∧ Filled w s ns z) E) F.called_set.init.plain F.entry_set_init (check_set_init_1 ty0 ?_)) fun r z hz => ?_
  · obtain ⟨⟨_, od, _, os⟩, hol, hcl, nl, hdl⟩ := hl
    simp only at hcl hdl
    subst hcl
    subst hdl
    have keep : (s.heap.push (emptySet w)).get? l = some { cls := .type "list", dict := od, data := .seq items nl, slots := os } := Heap.get?_push_of_some _ hol
    have s1 := F.sub_list_set
    have s2 := F.sub_list_frozenset
    have s3 : (Value.type "list" == Value.type "dict") = false := by decide
    have isl : (s.heap.push (emptySet w)).IsList l items := ⟨_, keep, rfl, nl, rfl⟩
    unfold Builtin.«set.__init__» noKeywords Builtin.Frozenset.updateFrom
    generalize hPI : pyIter = PI
    wp_walk
    subst hPI
    refine wpAny_pyIter_list isl (wpAny_bind (wpAny_runValue ?_))
    have lt : l < s.heap.objs.size := Heap.lt_size hol
    have sz : (s.heap.push (emptySet w)).objs.size = s.heap.objs.size + 1 := Heap.size_push ..
    have ne1 : l ≠ (s.heap.push (emptySet w)).objs.size := by rw [sz]; exact Nat.ne_of_lt (Nat.lt_succ_of_lt lt)
    have ne2 : s.heap.objs.size ∉ [(s.heap.push (emptySet w)).objs.size, l] := by
      rw [sz]
      intro z
      rcases List.mem_cons.mp z with z | z
      · exact absurd z (Nat.ne_of_lt (Nat.lt_succ_self _))
      · exact absurd (List.mem_singleton.mp z) (Nat.ne_of_gt lt)
    have each : ∀ (i : Nat) (v : Value), items[i]? = some v → ∃ k t, ns[i]? = some k ∧ v = .int k t := fun i v hv => by
      have hi : i < ns.length := size ▸ (Array.getElem?_eq_some_iff.mp hv).1
      obtain ⟨t, e⟩ := IntsAre.int_at hit i v (by rw [Array.getElem?_toList]; exact hv)
      exact ⟨ns[i], t, List.getElem?_eq_getElem hi, by rw [e, List.getD_eq_getElem?_getD, List.getElem?_eq_getElem hi]; rfl⟩
    refine set_update_ints ((Walks.list (show A.in1.in1.in1.handled = none by simp [hh]) _ l ne1 items).toS) s.heap.objs.size ne2 ns size hb each (items.size - 0) 0 _ (by omega) (Nat.zero_le _) ⟨⟨_, Heap.get?_push_size _ rfl, rfl, rfl⟩, isl.push _⟩ ⟨0, Nat.le_refl 0, setR_new_at (Heap.get?_push_of_some _ at0)⟩ fun s' c hm hc hS => ?_
    obtain ⟨h', g, d, tk, o⟩ := s'
    cases (show g = s.gens from hm.gens)
    cases (show d = s.drawn from hm.drawn)
    cases (show o = s.os from hm.os)
    refine (show wpAny _ _ _ _ _ _ from wpAny_pure (show wpAny _ _ (ret Value.none) _ _ _ from wpAny_pure ⟨rfl, h', tk, c, rfl, hS, size ▸ hc, fun b o e => ?_⟩))
    have hb0 : b < s.heap.objs.size := Heap.lt_size e
    refine hm.heap b o (fun z => ?_) (Heap.get?_push_of_some _ (Heap.get?_push_of_some _ e))
    rcases List.mem_cons.mp z with z | z
    · exact absurd z (Nat.ne_of_lt hb0)
    · exact absurd ((List.mem_singleton.mp z).trans sz) (Nat.ne_of_lt (Nat.lt_succ_of_lt hb0))
  · rcases r with _ | fl
    case error => exact hz
    cases fl <;> first | exact hz.elim | skip
    obtain ⟨rfl, f⟩ := hz
    obtain ⟨h', tk, c, rfl, hS, hc, k⟩ := id f
    repeat (any_goals (first | assumption | wp_step))
    exact hq _ ⟨_, _, _, rfl, hS, hc, k⟩
end
section
variable {X : Cx}
/-- set(xs), at most 60 ints: a set of just these -/
def rSetLi (K : PySem.W.Frag) (w : World) : List V → Hp → VK → Prop := fun xs H Q => ∃ (a : Addr) (ns : List Int), xs = [V.ref a] ∧ SqL K H a (ns.map V.int) ∧ ns.length ≤ 1000 ∧
  ∀ (p : Addr) (c : Nat), H p = none → c ≤ ns.length → Q (.ref p) (upd H p (SetO w p (fun k => decide (k ∈ ns)) c))
theorem cr_setLi (hc : X.calm = true) : CallR X (.type "set") (rSetLi X.K X.w) := by
  intro pins s σ H vs us Q I r h
  obtain ⟨a, ns, rfl, hS, hl, q⟩ := h
  rw [Vals.ref1 r]
  obtain ⟨its, rv, pl, hz⟩ := I.list hS
  refine call_set_li ns (I.ok.hd hc) pl.isList (by simpa using Vals.ints rv) (by unfold scanBound; omega) fun s' f => ?_
  obtain ⟨h', tk, c, rfl, R, hcn, k⟩ := f
  have hn : H s.heap.objs.size = none := I.hok.fresh (Nat.le_refl _)
  have J : Inv X pins σ (upd H s.heap.objs.size (SetO X.w s.heap.objs.size (fun k => decide (k ∈ ns)) c)) { s with heap := h', toks := tk } := I.laid (t' := tk) k (Nat.le_refl _) (setO_new R)
  exact ⟨.ref s.heap.objs.size, _, J, rfl, q _ _ hn hcn⟩
end
end Pot

/-! The rules whose readings name the written part, with it as a letter of its own. -/
namespace Pot
open PySem PySem.Spec PyProof.Rows L2
section
variable {X : Cx} {K : PySem.W.Frag}
theorem kx_list (h : X.K = K := by rfl) : IxR X (rIxL K) := h ▸ ix_list
theorem kx_tup (h : X.K = K := by rfl) : IxR X (rIxT K) := h ▸ ix_tup
theorem kl_list (h : X.K = K := by rfl) : SlR X (rSlL K) := h ▸ sl_list
theorem kl_tup (h : X.K = K := by rfl) : SlR X (rSlA K) := h ▸ sl_tupA
theorem ko_in (h : X.K = K := by rfl) : OpR X (compareOp .In) (rIn K false) := h ▸ op_in_seq
theorem ko_eq (hu : X.A.units + 64 < cLine) (h : X.K = K := by rfl) : OpR X (compareOp .Eq) (rEqD K) := h ▸ op_eqD hu
theorem ko_ne (hu : X.A.units + 64 < cLine) (h : X.K = K := by rfl) : OpR X (compareOp .NotEq) (rNeD K) := h ▸ op_neD hu
def rLen (K : PySem.W.Frag) : List V → Hp → VK → Prop := fun xs H Q => ∃ x n, xs = [x] ∧ LenV K x H n ∧ Q (.int n) H
theorem kc_len (h : X.K = K := by rfl) : CallR X (.builtin "len") (rLen K) := by subst h; exact call_len
def rListOf (K : PySem.W.Frag) : List V → Hp → VK → Prop := fun xs H Q => ∃ p ys, xs = [.ref p] ∧ (SqL K H p ys ∨ SqT K H p ys) ∧ ∀ l, H l = none → Q (.ref l) (upd H l (.lst ys))
theorem kc_list (h : X.K = K := by rfl) : CallR X (.type "list") (rListOf K) := by subst h; exact call_list_of
def rTupleOf (K : PySem.W.Frag) : List V → Hp → VK → Prop := fun xs H Q => ∃ p ys, xs = [.ref p] ∧ ((SqL K H p ys ∧ ∀ l, H l = none → Q (.ref l) (upd H l (.tup ys))) ∨ (SqT K H p ys ∧ Q (.ref p) H))
theorem kc_tuple (h : X.K = K := by rfl) : CallR X (.type "tuple") (rTupleOf K) := by subst h; exact call_tuple_of
theorem kc_sum (hc : X.calm = true := by rfl) (h : X.K = K := by rfl) : CallR X (.builtin "sum") (rSum K) := h ▸ cr_sum hc
theorem kc_all (hc : X.calm = true := by rfl) (h : X.K = K := by rfl) : CallR X (.builtin "all") (rAll K) := h ▸ cr_all hc
theorem kc_any (hc : X.calm = true := by rfl) (h : X.K = K := by rfl) : CallR X (.builtin "any") (rAny K) := h ▸ cr_any hc
theorem kc_sorted (h : X.K = K := by rfl) : CallR X (.builtin "sorted") (rSorted K) := h ▸ cr_sorted
theorem kc_sortedS (h : X.K = K := by rfl) : CallR X (.builtin "sorted") (rSortedS K) := h ▸ cr_sortedS
theorem kc_isi (h : X.K = K := by rfl) : CallR X (.builtin "isinstance") (rIsi K) := h ▸ call_isi
theorem kc_isiT (h : X.K = K := by rfl) : CallR X (.builtin "isinstance") (rIsiT K) := h ▸ call_isiT
theorem kc_repr (gd : X.A.guards = some []) (hu : X.A.units + 64 < cLine) (h : X.K = K := by rfl) : CallR X (.builtin "repr") (rRepr K) := h ▸ cr_repr gd hu
theorem kc_setLi {w : World} (hc : X.calm = true := by rfl) (h : X.K = K := by rfl) (hw : X.w = w := by rfl) : CallR X (.type "set") (rSetLi K w) := by subst h; subst hw; exact cr_setLi hc
theorem kc_sortedSet {w : World} (hc : X.calm = true := by rfl) (hw : X.w = w := by rfl) : CallR X (.builtin "sorted") (rSortedSet w) := hw ▸ cr_sortedSet hc
theorem ki_list {tg l : Expr} {tl : TE} (hl : PE X l tl) (h : X.K = K := by rfl) : PI X tg l (iList K tl) := h ▸ pi_list hl
theorem ki_tup {tg l : Expr} {tl : TE} (hl : PE X l tl) (h : X.K = K := by rfl) : PI X tg l (iTup K tl) := h ▸ pi_tup hl
theorem ki_zip {e e2 : Expr} {ta : TA} {p pos tpos : Pos} {elts : List Expr} {kk : Nat} (hg : Gl X "zip") (hm : X.mg "zip" = none) (ha : PA X [e, e2] ta) (hs : starEach [e, e2] X.env = (false, eval e X.env) :: starEach [e2] X.env := by rfl)
    (hpl : (backTo pos (starEach [e2] X.env)).any (·.1) = false := by rfl) (h : X.K = K := by rfl) : PI X (.Tuple elts kk tpos) (.Call (.Name "zip" p) [e, e2] [] pos) (RZ.iZipA K ta) := h ▸ RZ.pi_zipA hg hm ha hs hpl
theorem ki_enum {e : Expr} {ta : TA} {p pos tpos : Pos} {elts : List Expr} {kk : Nat} (hg : Gl X "enumerate") (hm : X.mg "enumerate" = none) (ha : PA X [e] ta) (hs : starEach [e] X.env = [(false, eval e X.env)] := by rfl) (h : X.K = K := by rfl)
    : PI X (.Tuple elts kk tpos) (.Call (.Name "enumerate" p) [e] [] pos) (iEnum K ta) := h ▸ pi_enum hg hm ha hs
theorem kg_tup {pos : Pos} {es : List Expr} {k : Nat} {t : TGs} {n : Nat} (h : PGs X es t) (hc : X.calm = true := by rfl) (hn : (assignEach es X.env).length = n := by rfl) (hst : (assignEach es X.env).findIdx? (·.1) = none := by rfl) (hk : X.K = K := by rfl) : PG X (.Tuple es k pos) (gTup K n t) := hk ▸ pg_tup hc h hn hst
def tTru (K : PySem.W.Frag) (ta : TE) : TT := fun σ H Q => ta σ H fun x H' => ∃ k, TruV K x H' k ∧ Q k H'
theorem kt_truth {a : Expr} {ta : TE} (ha : PE X a ta) (he : ∀ whole, isTrue a X.env whole = (do let v ← whole; standAt a.pos; holding [v] (truthy v)) := by intro _; rfl) (h : X.K = K := by rfl) : PT X a (tTru K ta) := by subst h; exact pt_truth ha he
def rJoin (K : PySem.W.Frag) : V → List V → Hp → VK → Prop := fun x xs H Q => ∃ a p, ∃ ys : List Str, x = .str a ∧ xs = [.ref p] ∧ (SqL K H p (ys.map V.str) ∨ SqT K H p (ys.map V.str)) ∧ (ys.map (·.length)).sum + ys.length * a.length ≤ 16777216 ∧ Q (.str (Txt.join a ys)) H
theorem ke_join {o e : Expr} {to te : TE} {apos pos : Pos} (ho : PE X o to) (he : PE X e te) (hs : starEach [e] X.env = [(false, eval e X.env)] := by rfl) (hbase : attributeBase o "join" X.env (eval o X.env) = eval o X.env := by rfl) (hline : (apos.endLine == pos.line) = true := by rfl) (h : X.K = K := by rfl) :
    PE X (.Call (.Attribute o "join" apos) [e] [] pos) (tM1 (rJoin K) to te) := by subst h; exact pe_join ho he hs hbase hline
theorem pss_never {st : List Stmt} : PSs X st (fun _ _ _ => False) := ⟨fun _ _ _ _ _ _ h => h.elim⟩
theorem ps_never {st : Stmt} : PS X st (fun _ _ _ => False) := ⟨fun _ _ _ _ _ _ h => h.elim⟩
theorem pe_never {e : Expr} : PE X e (fun _ _ _ => False) := ⟨fun _ _ _ _ _ _ h => h.elim⟩
theorem tYes_at {σ : L2.St} {H : Hp} {Q : Bool → Hp → Prop} (h : Q true H) : tYes σ H Q := h
end
end Pot

namespace Pot
open PySem PySem.Spec PyProof.Rows L2
/-- built-in names that the module gives no other meaning -/
structure Txt (mg : Str → Option Value) : Prop where
  len : mg "len" = none
  divmod : mg "divmod" = none
  range : mg "range" = none
  sum : mg "sum" = none
  all : mg "all" = none
  any : mg "any" = none
  isinstance : mg "isinstance" = none
  str : mg "str" = none
  int : mg "int" = none
  list : mg "list" = none
  tuple : mg "tuple" = none
  bool : mg "bool" = none
  zip : mg "zip" = none
  set : mg "set" = none
  sorted : mg "sorted" = none
  enumerate : mg "enumerate" = none
  repr : mg "repr" = none
  min : mg "min" = none
  max : mg "max" = none
  abs : mg "abs" = none
/-- a def that may be called by its name: what it keeps, at which level -/
def Cl (P : Program) (w : World) (K : PySem.W.Frag) (mg : Str → Option Value) (base : Heap) (k : Nat) (x : Str) (sp : Sp) : Prop :=
  ∃ (f : Addr) (fd : FuncData) (ps : List Str), FnOk P w K mg base CX0 k f fd ps sp ∧ mg x = some (.ref f) ∧ PySem.W.keepIn K (.ref f) = true ∧ Binds K fd ps []
theorem pe_cl {X : Cx} {k j : Nat} {x : Str} {sp : Sp} {e : Expr} {es : List Expr} {t : TA} {p pos : Pos} (c : Cl X.prog X.w X.K X.mg X.base k x sp) (hr : Room j X.A) (hk : k ≤ j) (hg : Gl X x) (ha : PA X (e :: es) t) (hdb : (x == ("__debug__" : Str)) = false := by decide)
    (he : starEach (e :: es) X.env = (false, eval e X.env) :: starEach es X.env := by rfl) (hpl : (backTo pos (starEach es X.env)).any (·.1) = false := by rfl) : PE X (.Call (.Name x p) (e :: es) [] pos) (tCall sp [] E0 t) := by
  obtain ⟨f, fd, ps, G, hm, kp, b⟩ := c
  exact pe_call G (hr.mono hk) hg hm kp b .nil pass0 ha hdb he hpl
/-! ### the drawing state -/
def dS (c : Addr) (t : Int) : List (Key × V) := [(Sum.inr "cells", .ref c), (Sum.inr "turn", .int t)]
/-- at d stands a state of the law: its cells at c, its turn at most n -/
def StAt (H : Hp) (d c : Addr) (n : Nat) : Prop := d ≠ c ∧ ∃ (xs : List Int) (t : Int),
  H d = some (.dK (dS c t)) ∧ H c = some (.lst (xs.map V.int)) ∧ xs ≠ [] ∧ xs.length ≤ 63 ∧ 0 ≤ t ∧ t ≤ n
/-- all that was tracked stands, but d and c -/
def Kp (d c : Addr) (H H' : Hp) : Prop := ∀ b o, b ≠ d → b ≠ c → H b = some o → H' b = some o
theorem Kp.refl (d c : Addr) (H : Hp) : Kp d c H H := fun _ _ _ _ e => e
theorem Kp.trans {d c : Addr} {H H1 H2 : Hp} (a : Kp d c H H1) (b : Kp d c H1 H2) : Kp d c H H2 := fun x o h1 h2 e => b x o h1 h2 (a x o h1 h2 e)
theorem Kp.of {d c : Addr} {H H' : Hp} (s : Same H H') : Kp d c H H' := fun x o _ _ e => s x o e
theorem same_upd {H : Hp} {p : Addr} {o : HO} (h : H p = none) : Same H (upd H p o) := fun b x e => by
  rw [upd_ne (ne_of_none e h)]
  exact e
theorem same_put {H H' : Hp} {p : Addr} {o : HO} (s : Same H H') (h : H p = none) : Same H (upd H' p o) := fun b x e => by
  rw [upd_ne (ne_of_none e h)]
  exact s b x e
theorem kp_put {d c : Addr} {H H' : Hp} {p : Addr} {o : HO} (s : Kp d c H H') (h : H p = none) : Kp d c H (upd H' p o) := fun b x h1 h2 e => by
  rw [upd_ne (ne_of_none e h)]
  exact s b x h1 h2 e
theorem StAt.mono {H : Hp} {d c : Addr} {n m : Nat} (h : StAt H d c n) (k : n ≤ m) : StAt H d c m := by
  obtain ⟨h0, xs, t, h1, h2, h3, h4, h5, h6⟩ := h
  exact ⟨h0, xs, t, h1, h2, h3, h4, h5, by omega⟩
theorem StAt.same {H H' : Hp} {d c : Addr} {n : Nat} (h : StAt H d c n) (s : Same H H') : StAt H' d c n := by
  obtain ⟨h0, xs, t, h1, h2, h3, h4, h5, h6⟩ := h
  exact ⟨h0, xs, t, s _ _ h1, s _ _ h2, h3, h4, h5, h6⟩
theorem Kp.free {d c : Addr} {H H' : Hp} {n : Nat} {l : Addr} (k : Kp d c H H') (s : StAt H' d c n) (h : H' l = none) : H l = none := by
  obtain ⟨_, xs, t, h1, h2, _⟩ := s
  have n1 : l ≠ d := (ne_of_none h1 h).symm
  have n2 : l ≠ c := (ne_of_none h2 h).symm
  cases e : H l with
  | none => rfl
  | some o =>
    rw [k l o n1 n2 e] at h
    cases h
theorem StAt.ne1 {H : Hp} {d c : Addr} {n : Nat} {l : Addr} (s : StAt H d c n) (h : H l = none) : d ≠ l := by
  obtain ⟨_, xs, t, h1, h2, _⟩ := s
  exact ne_of_none h1 h
theorem StAt.ne2 {H : Hp} {d c : Addr} {n : Nat} {l : Addr} (s : StAt H d c n) (h : H l = none) : c ≠ l := by
  obtain ⟨_, xs, t, h1, h2, _⟩ := s
  exact ne_of_none h2 h
theorem StAt.put {H : Hp} {d c : Addr} {n : Nat} {l : Addr} {o : HO} (s : StAt H d c n) (n1 : d ≠ l) (n2 : c ≠ l) : StAt (upd H l o) d c n := by
  obtain ⟨h0, xs, t, h1, h2, h3, h4, h5, h6⟩ := s
  exact ⟨h0, xs, t, by rw [upd_ne n1]; exact h1, by rw [upd_ne n2]; exact h2, h3, h4, h5, h6⟩
theorem val_turn (c : Addr) (t : Int) : valV (dS c t) (Sum.inr "turn") = some (.int t) := by
  have e : ¬ ((Sum.inr (Str.ofString "cells") : Key) = Sum.inr (Str.ofString "turn")) := by decide +kernel
  unfold dS; rw [valV_neg e, valV_pos rfl]
theorem val_cells (c : Addr) (t : Int) : valV (dS c t) (Sum.inr "cells") = some (.ref c) := by
  unfold dS; rw [valV_pos rfl]
theorem put_turn (c : Addr) (t u : Int) : putK (dS c t) (Sum.inr "turn") (.int u) = dS c u := by
  have e : ¬ ((Sum.inr (Str.ofString "cells") : Key) = Sum.inr (Str.ofString "turn")) := by decide +kernel
  unfold putK dS
  simp [e]

theorem dget_turn {H : Hp} {d c : Addr} {t : Int} (h : H d = some (.dK (dS c t))) : DGet H d (.str "turn") (some (.int t)) := by
  rw [← val_turn c t]; exact DGet.k (k := Sum.inr "turn") h
theorem dget_cells {H : Hp} {d c : Addr} {t : Int} (h : H d = some (.dK (dS c t))) : DGet H d (.str "cells") (some (.ref c)) := by
  rw [← val_cells c t]; exact DGet.k (k := Sum.inr "cells") h
theorem dput_turn {H : Hp} {d c : Addr} {t : Int} (u : Int) (h : H d = some (.dK (dS c t))) : DPut H d (.str "turn") (.int u) (upd H d (.dK (dS c u))) := by
  rw [← put_turn c t u]; exact DPut.k (k := Sum.inr "turn") h (by show 2 < sizeLine; decide)
theorem ge18 (x : Int) : (decide ((10 : Int) ^ (18 : Int).toNat ≤ x) = true) ↔ 1000000000000000000 ≤ x := by
  have e : (10 : Int) ^ (18 : Int).toNat = 1000000000000000000 := by decide
  rw [e, decide_eq_true_eq]
theorem cmul_mod (a b : Int) {m : Int} (h0 : 0 < m) (h1 : m < 2 ^ 64) : CMul (a % m) b := by
  have p := Int.emod_nonneg a (show m ≠ 0 by omega)
  have q := Int.emod_lt_of_pos a h0
  exact .inl ⟨by omega, by omega⟩
theorem mod_at {xs : List Int} {u : Int} (hx : xs ≠ []) : ∃ (j : Nat) (y : Int), u % ((xs.map V.int).length : Int) = (j : Int) ∧ j < xs.length ∧ xs[j]? = some y := by
  have h0 : 0 < xs.length := List.length_pos_iff.mpr hx
  rw [List.length_map]
  have a := Int.emod_nonneg u (show (xs.length : Int) ≠ 0 by omega)
  have b := Int.emod_lt_of_pos u (show (0 : Int) < (xs.length : Int) by omega)
  refine ⟨(u % (xs.length : Int)).toNat, xs[(u % (xs.length : Int)).toNat]'(by omega), by omega, by omega, ?_⟩
  exact List.getElem?_eq_getElem _

section
variable {K : PySem.W.Frag}
theorem cut63 {xs : List V} (h : xs.length ≤ 63) : cutV xs none (some 63) = xs := by
  unfold cutV
  rw [HT.sIx_none, show HT.sIx xs.length xs.length (some 63) = min 63 xs.length from HT.sIx_nat xs.length xs.length 63, Nat.min_eq_right h]
  simp
theorem dp_ints {H : Hp} (ns : List Int) : DpAll K H (ns.map V.int) (ns.map PyData.int) := by
  induction ns with
  | nil => exact .nil
  | cons n r ih => exact .cons (.int n) ih
theorem same_tup {H H' : Hp} {a : Addr} {xs : List V} (e : Same H H') (h : SqT K H a xs) : SqT K H' a xs := by
  rcases h with (h | ⟨o, h⟩) | h
  · exact .inl (.inl (e _ _ h))
  · exact .inl (.inr ⟨o, e _ _ h⟩)
  · exact .inr h
mutual
theorem dp_same {H H' : Hp} (s : Same H H') : ∀ {v : V} {d : PyData}, Dp K H v d → Dp K H' v d
  | _, _, .non => .non
  | _, _, .bl b => .bl b
  | _, _, .int i => .int i
  | _, _, .str x => .str x
  | _, _, .lst h a => .lst (s.seq h) (dpAll_same s a)
  | _, _, .tup h a => .tup (same_tup s h) (dpAll_same s a)
theorem dpAll_same {H H' : Hp} (s : Same H H') : ∀ {vs : List V} {ds : List PyData}, DpAll K H vs ds → DpAll K H' vs ds
  | _, _, .nil => .nil
  | _, _, .cons h t => .cons (dp_same s h) (dpAll_same s t)
end
theorem dpAll_len {H : Hp} : ∀ {vs : List V} {ds : List PyData}, DpAll K H vs ds → vs.length = ds.length
  | _, _, .nil => rfl
  | _, _, .cons _ t => by rw [List.length_cons, List.length_cons, dpAll_len t]
theorem dpAll_at {H : Hp} : ∀ {vs : List V} {ds : List PyData} {i : Nat} {v : V}, DpAll K H vs ds → vs[i]? = some v → ∃ d, ds[i]? = some d ∧ Dp K H v d
  | _, _, _, _, .nil, h => by simp at h
  | _, _, 0, _, .cons h _, e => ⟨_, rfl, by cases e; exact h⟩
  | _, _, i + 1, _, .cons _ t, e => dpAll_at (i := i) t e
theorem depth_at : ∀ {ds : List PyData} {i : Nat} {d : PyData}, ds[i]? = some d → d.depth ≤ PyData.depthAll ds
  | [], _, _, h => by simp at h
  | x :: r, 0, d, h => by cases h; unfold PyData.depthAll; exact Nat.le_max_left ..
  | x :: r, i + 1, d, h => by
    have := depth_at (ds := r) (i := i) (d := d) h
    unfold PyData.depthAll
    exact Nat.le_trans this (Nat.le_max_right ..)
theorem tyx_list {H : Hp} {a : Addr} {xs : List V} (h : SqL K H a xs) : TyX K H (.ref a) (.type "list") := by
  rcases h with (h | ⟨o, h⟩) | ⟨o, its, n, h1, h2, _⟩
  · exact .base (.lst h)
  · exact .base (.frz h)
  · exact .kList h1 h2
theorem tyx_tup {H : Hp} {a : Addr} {xs : List V} (h : SqT K H a xs) : TyX K H (.ref a) (.type "tuple") := by
  rcases h with (h | ⟨o, h⟩) | ⟨o, its, n, h1, h2, _⟩
  · exact .base (.tup h)
  · exact .fTuple h
  · exact .kTuple h1 h2
theorem walk_zipT {a b : Addr} {xs ys : List V} {n : Nat} (hn : n = min xs.length ys.length) : Walk (RZ.ItzT K a b) n (fun H => SqT K H a xs ∧ SqT K H b ys) (YPair (fun i => xs[i]?) (fun i => ys[i]?)) := by
  subst hn
  refine ⟨fun i _ hi q => ?_, fun _ q => ⟨xs, ys, q.1, q.2, by omega⟩, fun i H v H' _ q y => ?_⟩
  · exact ⟨xs, ys, xs[i]'(by omega), ys[i]'(by omega), q.1, q.2, List.getElem?_eq_getElem _, List.getElem?_eq_getElem _⟩
  · obtain ⟨T, x, z, e1, e2, e3, e4, e5⟩ := y
    exact ⟨T, x, z, e1, e2, e3, e4 xs q.1, e5 ys q.2⟩
/-- the longest list within -/
def widAll : List PyData → Nat
  | [] => 0
  | x :: xs => max (wid x) (widAll xs)
where wid : PyData → Nat
  | .list xs => max xs.length (widAll xs)
  | .tuple xs => max xs.length (widAll xs)
  | _ => 0
theorem wid_at : ∀ {ds : List PyData} {i : Nat} {d : PyData}, ds[i]? = some d → widAll.wid d ≤ widAll ds
  | [], _, _, h => by simp at h
  | x :: r, 0, d, h => by cases h; unfold widAll; exact Nat.le_max_left ..
  | x :: r, i + 1, d, h => by
    have := wid_at (ds := r) (i := i) (d := d) h
    unfold widAll
    exact Nat.le_trans this (Nat.le_max_right ..)
theorem depth_ints (ns : List Int) : (PyData.list (ns.map PyData.int)).depth = 1 := by
  have h : ∀ l : List Int, PyData.depthAll (l.map PyData.int) = 0 := by
    intro l
    induction l with
    | nil => rfl
    | cons x r ih =>
      show max 0 (PyData.depthAll (r.map PyData.int)) = 0
      rw [ih]
      rfl
  show PyData.depthAll (ns.map PyData.int) + 1 = 1
  rw [h]
theorem wid_ints (ns : List Int) : widAll.wid (PyData.list (ns.map PyData.int)) = ns.length := by
  have h : ∀ l : List Int, widAll (l.map PyData.int) = 0 := by
    intro l
    induction l with
    | nil => rfl
    | cons x r ih =>
      show max 0 (widAll (r.map PyData.int)) = 0
      rw [ih]
      rfl
  show max (ns.map PyData.int).length (widAll (ns.map PyData.int)) = ns.length
  rw [h, List.length_map, Nat.max_zero]
theorem flat_ints (ns : List Int) : (ns.map V.int).all flatV = true := by
  rw [List.all_eq_true]
  intro x hx
  obtain ⟨k, _, rfl⟩ := List.mem_map.mp hx
  rfl
end
section
variable {P : Program} {w : World} {K : PySem.W.Frag} {mg : Str → Option Value} {base : Heap}
/-- a def with values that may be left out -/
abbrev FunV (K : PySem.W.Frag) (x : Str) (st : Stmt) (dvs : List V) (f : Addr) (fd : FuncData) : Prop := FunD K x x (defArgs st) (defBody st) (defScope st) dvs [] f fd
theorem okD {x : Str} {st : Stmt} {dvs : List V} {f : Addr} {fd : FuncData} {N ps : List Str} {k : Nat} {sp : Sp} (F : FunV K x st dvs f fd) (S : FnScope N ps (defScope st)) (len : ∀ vs H Q E, sp vs H Q E → vs.length = ps.length)
    (body : ∀ (cdv : Value) (A : Around) (outer : List Env) (s : Shared) (H : Hp) (vs : List V) (Q : VK) (E : XK), Room k (A.deeper (envOfC x (defScope st) s.heap.objs.size f cdv)) → sp vs H Q E →
      ∃ t, PSs (cxOf CX0 P w K mg base N x (defScope st) f cdv A outer s H E).nox (defBody st) t ∧ t { nx := fun _ H' => Q .non H', rt := Q } (start N vs) H) : FnOk P w K mg base CX0 (k + 1) f fd ps sp :=
  FunD.ok F S len fun cdv A outer s H vs Q E hr h => by
    obtain ⟨t, ht, hq⟩ := body cdv A outer s H vs Q E hr h
    exact ⟨t, ht.nox, hq⟩
/-- a def that may be called by its name, the values ds being left out -/
def ClD (P : Program) (w : World) (K : PySem.W.Frag) (mg : Str → Option Value) (base : Heap) (k : Nat) (x : Str) (ds : List V) (sp : Sp) : Prop :=
  ∃ (f : Addr) (fd : FuncData) (ps : List Str) (dus : List Value), FnOk P w K mg base CX0 k f fd ps sp ∧ mg x = some (.ref f) ∧ PySem.W.keepIn K (.ref f) = true ∧ Binds K fd ps dus ∧ Vals ds dus
theorem pe_cd {X : Cx} {k j : Nat} {x : Str} {ds : List V} {sp : Sp} {e : Expr} {es : List Expr} {t : TA} {p pos : Pos} (c : ClD X.prog X.w X.K X.mg X.base k x ds sp) (hr : Room j X.A) (hk : k ≤ j) (hg : Gl X x) (ha : PA X (e :: es) t) (hdb : (x == ("__debug__" : Str)) = false := by decide)
    (he : starEach (e :: es) X.env = (false, eval e X.env) :: starEach es X.env := by rfl) (hpl : (backTo pos (starEach es X.env)).any (·.1) = false := by rfl) : PE X (.Call (.Name x p) (e :: es) [] pos) (tCall sp ds E0 t) := by
  obtain ⟨f, fd, ps, dus, G, hm, kp, b, dv⟩ := c
  exact pe_call G (hr.mono hk) hg hm kp b dv pass0 ha hdb he hpl
theorem Cl.mono {k j : Nat} {x : Str} {sp : Sp} (c : Cl P w K mg base k x sp) (h : k ≤ j) : Cl P w K mg base j x sp := by
  obtain ⟨f, fd, ps, G, r⟩ := c
  exact ⟨f, fd, ps, G.mono h, r⟩
end
end Pot

namespace Pot
open PySem PySem.Spec PyProof.Rows L2
/-! ### a box of three numbers from which is drawn, and all that stands beside it -/
def Bx (H : Hp) (b : Addr) : Prop := ∃ x y z : Int, H b = some (.lst [.int x, .int y, .int z])
/-- the heap without some -/
def off (H : Hp) (S : List Addr) : Hp := fun x => if x ∈ S then none else H x
theorem off_in {H : Hp} {S : List Addr} {x : Addr} (h : x ∈ S) : off H S x = none := if_pos h
theorem off_out {H : Hp} {S : List Addr} {x : Addr} (h : x ∉ S) : off H S x = H x := if_neg h
theorem off_mem {H : Hp} {S : List Addr} {x : Addr} {o : HO} (h : off H S x = some o) : x ∉ S := fun e => by rw [off_in e] at h; cases h
theorem off_sub {H : Hp} {S : List Addr} : Same (off H S) H := fun x o h => by
  have n := off_mem h
  rw [off_out n] at h; exact h
theorem off_mono {H : Hp} {S T : List Addr} (h : ∀ x ∈ T, x ∈ S) : Same (off H S) (off H T) := fun x o e => by
  have n := off_mem e
  rw [off_out n] at e
  rw [off_out fun z => n (h x z)]; exact e
/-- what stands beside S stands -/
abbrev Sm (S : List Addr) (H H' : Hp) : Prop := Same (off H S) (off H' S)
theorem sm_mono {H H' : Hp} {S T : List Addr} (h : ∀ x ∈ T, x ∈ S) (s : Sm T H H') : Sm S H H' := fun x o e => by
  have n := off_mem e
  rw [off_out n] at e ⊢
  have n2 : x ∉ T := fun z => n (h x z)
  have := s x o (by rw [off_out n2]; exact e)
  rw [off_out n2] at this; exact this
theorem sm_one {H H' : Hp} {S : List Addr} {b : Addr} (h : b ∈ S) (s : Sm [b] H H') : Sm S H H' := sm_mono (fun x hx => by rw [List.mem_singleton.mp hx]; exact h) s
theorem sm_of {H H' : Hp} {S : List Addr} (s : Same H H') : Sm S H H' := fun x o h => by
  have n := off_mem h
  rw [off_out n] at h ⊢; exact s x o h
theorem sm_put {H : Hp} {S : List Addr} {p : Addr} {o : HO} (h : H p = none) : Sm S H (upd H p o) := sm_of (same_upd h)
theorem sm_wr {H : Hp} {S : List Addr} {p : Addr} {o : HO} (h : p ∈ S) : Sm S H (upd H p o) := fun x u e => by
  have n := off_mem e
  rw [off_out n] at e ⊢
  have ne : x ≠ p := fun z => n (by rw [z]; exact h)
  rw [upd_ne ne]; exact e
theorem at_off {H : Hp} {S : List Addr} {x : Addr} {o : HO} (h : off H S x = some o) : H x = some o := off_sub x o h
theorem Bx.bx {H : Hp} {b : Addr} (B : Bx H b) : Bx H b := B
theorem Bx.ne {H : Hp} {b p : Addr} (B : Bx H b) (h : H p = none) : p ≠ b := fun e => by
  obtain ⟨x, y, z, B⟩ := B
  rw [e, B] at h; cases h
theorem Bx.same {H H' : Hp} {b : Addr} (B : Bx H b) (s : Same H H') : Bx H' b := by
  obtain ⟨x, y, z, B⟩ := B
  exact ⟨x, y, z, s _ _ B⟩
theorem Bx.put {H : Hp} {b p : Addr} {o : HO} (B : Bx H b) (h : H p = none) : Bx (upd H p o) b := B.same (same_upd h)
theorem Bx.wr {H : Hp} {b p : Addr} {o : HO} (B : Bx H b) (h : p ≠ b) : Bx (upd H p o) b := by
  obtain ⟨x, y, z, B⟩ := B
  exact ⟨x, y, z, by rw [upd_ne h.symm]; exact B⟩
/-- all of S are there -/
def Live (S : List Addr) (H : Hp) : Prop := ∀ s ∈ S, H s ≠ none
theorem Live.same {S : List Addr} {H H' : Hp} (L : Live S H) (s : Same H H') : Live S H' := fun x hx e => by
  cases h : H x with
  | none => exact L x hx h
  | some o => rw [s x o h] at e; cases e
theorem Live.box {S : List Addr} {H H' : Hp} {b : Addr} (L : Live S H) (B : Bx H' b) (s : Sm [b] H H') : Live S H' := fun x hx e => by
  by_cases hb : x = b
  · obtain ⟨_, _, _, B⟩ := B
    rw [hb, B] at e; cases e
  · have n : x ∉ [b] := fun z => hb (List.mem_singleton.mp z)
    cases h : H x with
    | none => exact L x hx h
    | some o =>
      have := s x o (by rw [off_out n]; exact h)
      rw [off_out n, e] at this; cases this
theorem Live.put {S : List Addr} {H : Hp} {p : Addr} {o : HO} (L : Live S H) (h : H p = none) : Live S (upd H p o) := L.same (same_upd h)
theorem Live.wr {S : List Addr} {H : Hp} {p : Addr} {o : HO} (L : Live S H) : Live S (upd H p o) := fun x hx e => by
  by_cases hp : x = p
  · rw [hp, upd_same] at e; cases e
  · rw [upd_ne hp] at e; exact L x hx e
theorem Live.one {H : Hp} {b : Addr} (B : Bx H b) : Live [b] H := fun x hx e => by
  obtain ⟨_, _, _, B⟩ := B
  rw [List.mem_singleton.mp hx, B] at e; cases e
theorem Live.out {S : List Addr} {H : Hp} {p : Addr} (L : Live S H) (h : H p = none) : p ∉ S := fun z => L p z h
theorem Live.cons {S : List Addr} {H : Hp} {p : Addr} {o : HO} (L : Live S H) (h : H p = some o) : Live (p :: S) H := fun x hx e => by
  rcases List.mem_cons.mp hx with z | z
  · rw [z, h] at e; cases e
  · exact L x z e
theorem off_new {H : Hp} {S : List Addr} {p : Addr} {o : HO} (L : Live S H) (h : H p = none) : off (upd H p o) S p = some o := by
  rw [off_out (L.out h)]; exact upd_same
theorem off_upd {H : Hp} {S : List Addr} {p : Addr} {o : HO} (h : p ∉ S) : off (upd H p o) S p = some o := by
  rw [off_out h]; exact upd_same
section
variable {K : PySem.W.Frag}
theorem sq_off {H : Hp} {S : List Addr} {a : Addr} {xs : List V} (h : SqL K (off H S) a xs) : SqL K H a xs := off_sub.seq h
theorem sqt_off {H : Hp} {S : List Addr} {a : Addr} {xs : List V} (h : SqT K (off H S) a xs) : SqT K H a xs := same_tup off_sub h
theorem dp_off {H : Hp} {S : List Addr} {v : V} {d : PyData} (h : Dp K (off H S) v d) : Dp K H v d := dp_same off_sub h
/-- a new list is none of S, beside which the rest stands as it was -/
theorem off_fresh {H : Hp} {S : List Addr} {p : Addr} {o : HO} (h : H p = none) : off (upd H p o) (p :: S) = off H S := by
  funext x; unfold off
  by_cases e : x = p
  · subst e
    rw [if_pos List.mem_cons_self, h]
    split <;> rfl
  · have : (x ∈ p :: S) ↔ x ∈ S := by rw [List.mem_cons]; exact ⟨fun z => z.resolve_left e, .inr⟩
    by_cases m : x ∈ S
    · rw [if_pos m, if_pos (this.mpr m)]
    · rw [if_neg m, if_neg fun z => m (this.mp z), upd_ne e]
end
/-! ### what is made of numbers, texts, truths, None, lists and tuples -/
/-- numbers within m, texts of at most 2000 signs -/
def gdAll (m : Nat) : List PyData → Prop
  | [] => True
  | x :: xs => gd m x ∧ gdAll m xs
where gd (m : Nat) : PyData → Prop
  | .none => True
  | .bool _ => True
  | .int i => i.natAbs ≤ m
  | .str x => x.length ≤ 2000 ∧ ∀ c ∈ x.cps.toList, c < 1114112
  | .list xs => gdAll m xs
  | .tuple xs => gdAll m xs
  | .dict _ => False
abbrev gd (m : Nat) (d : PyData) : Prop := gdAll.gd m d
theorem gdAll_iff {m : Nat} : ∀ {ds : List PyData}, gdAll m ds ↔ ∀ d ∈ ds, gd m d
  | [] => ⟨fun _ _ h => (List.not_mem_nil h).elim, fun _ => trivial⟩
  | x :: xs => by
    constructor
    · intro h d hd
      rcases List.mem_cons.mp hd with e | e
      · rw [e]; exact h.1
      · exact gdAll_iff.mp h.2 d e
    · intro h
      exact ⟨h x List.mem_cons_self, gdAll_iff.mpr fun d hd => h d (List.mem_cons_of_mem _ hd)⟩
mutual
theorem gd_mono {m n : Nat} (h : m ≤ n) : ∀ d : PyData, gd m d → gd n d
  | .none, _ => trivial
  | .bool _, _ => trivial
  | .int i, g => Nat.le_trans g h
  | .str _, g => g
  | .list xs, g => gdAll_mono h xs g
  | .tuple xs, g => gdAll_mono h xs g
  | .dict _, g => g.elim
theorem gdAll_mono {m n : Nat} (h : m ≤ n) : ∀ ds : List PyData, gdAll m ds → gdAll n ds
  | [], _ => trivial
  | x :: xs, g => ⟨gd_mono h x g.1, gdAll_mono h xs g.2⟩
end
theorem log_small' {i : Int} (h : i.natAbs ≤ 2000000) : i.natAbs.log2 < 1920 := by
  by_cases z : i.natAbs = 0
  · rw [z]; decide
  · have := (Nat.log2_lt z).mpr (show i.natAbs < 2 ^ 21 from Nat.lt_of_le_of_lt h (by decide))
    omega
mutual
theorem gd_fine {m : Nat} (h : m ≤ 2000000) : ∀ d : PyData, gd m d → fineAll.fine d
  | .none, _ => trivial
  | .bool _, _ => trivial
  | .int i, g => log_small' (Nat.le_trans g h)
  | .str _, g => fun c hc => Nat.lt_trans (g.2 c hc) (by decide)
  | .list xs, g => gdAll_fine h xs g
  | .tuple xs, g => gdAll_fine h xs g
  | .dict _, g => g.elim
theorem gdAll_fine {m : Nat} (h : m ≤ 2000000) : ∀ ds : List PyData, gdAll m ds → fineAll ds
  | [], _ => trivial
  | x :: xs, g => ⟨gd_fine h x g.1, gdAll_fine h xs g.2⟩
end
theorem costAll_app (xs ys : List PyData) : costAll (xs ++ ys) = costAll xs + costAll ys := by
  induction xs with
  | nil => simp [costAll]
  | cons x xs ih => simp only [List.cons_append, costAll, ih]; omega
theorem cost_mem {ds : List PyData} {d : PyData} (h : d ∈ ds) : costAll.cost d + 2 ≤ costAll ds := by
  induction ds with
  | nil => exact (List.not_mem_nil h).elim
  | cons x xs ih =>
    show _ ≤ costAll.cost x + 2 + costAll xs
    rcases List.mem_cons.mp h with e | e
    · rw [e]; omega
    · have := ih e; omega
theorem len_cost : ∀ ds : List PyData, 2 * ds.length ≤ costAll ds
  | [] => Nat.le_refl _
  | x :: xs => by
    have := len_cost xs
    show 2 * (xs.length + 1) ≤ costAll.cost x + 2 + costAll xs
    omega
theorem depthAll_iff {D : Nat} : ∀ {ds : List PyData}, PyData.depthAll ds ≤ D ↔ ∀ d ∈ ds, d.depth ≤ D
  | [] => ⟨fun _ _ h => (List.not_mem_nil h).elim, fun _ => Nat.zero_le _⟩
  | x :: xs => by
    show max x.depth (PyData.depthAll xs) ≤ D ↔ _
    rw [Nat.max_le, depthAll_iff (ds := xs)]
    constructor
    · rintro ⟨h1, h2⟩ d hd
      rcases List.mem_cons.mp hd with e | e
      · rw [e]; exact h1
      · exact h2 d e
    · intro h
      exact ⟨h x List.mem_cons_self, fun d hd => h d (List.mem_cons_of_mem _ hd)⟩
/-- rows of parts: of numbers within m, their cost, how deep and how wide each -/
structure Ths (m C D W : Nat) (ds : List PyData) : Prop where
  g : ∀ d ∈ ds, gd m d
  c : costAll ds ≤ C
  d : ∀ d ∈ ds, d.depth ≤ D
  w : ∀ d ∈ ds, widAll.wid d ≤ W
/-- a thing: of numbers within m, its cost, how deep, how wide -/
structure Th (m C D W : Nat) (dd : PyData) : Prop where
  g : gd m dd
  c : costAll.cost dd ≤ C
  d : dd.depth ≤ D
  w : widAll.wid dd ≤ W
theorem widAll_iff {D : Nat} : ∀ {ds : List PyData}, widAll ds ≤ D ↔ ∀ d ∈ ds, widAll.wid d ≤ D
  | [] => ⟨fun _ _ h => (List.not_mem_nil h).elim, fun _ => Nat.zero_le _⟩
  | x :: xs => by
    show max (widAll.wid x) (widAll xs) ≤ D ↔ _
    rw [Nat.max_le, widAll_iff (ds := xs)]
    constructor
    · rintro ⟨h1, h2⟩ d hd
      rcases List.mem_cons.mp hd with e | e
      · rw [e]; exact h1
      · exact h2 d e
    · intro h
      exact ⟨h x List.mem_cons_self, fun d hd => h d (List.mem_cons_of_mem _ hd)⟩
section
variable {m n C E D F W U : Nat} {d x : PyData} {ds xs ys : List PyData}
theorem Th.mono (h : Th m C D W d) (a : m ≤ n) (b : C ≤ E) (c : D ≤ F) (e : W ≤ U) : Th n E F U d := ⟨gd_mono a d h.g, Nat.le_trans h.c b, Nat.le_trans h.d c, Nat.le_trans h.w e⟩
theorem Ths.mono (h : Ths m C D W ds) (a : m ≤ n) (b : C ≤ E) (c : D ≤ F) (e : W ≤ U) : Ths n E F U ds := ⟨fun x hx => gd_mono a x (h.g x hx), Nat.le_trans h.c b, fun x hx => Nat.le_trans (h.d x hx) c, fun x hx => Nat.le_trans (h.w x hx) e⟩
theorem Ths.app (h : Ths m C D W xs) (k : Ths m E D W ys) : Ths m (C + E) D W (xs ++ ys) :=
  ⟨fun d hd => (List.mem_append.mp hd).elim (h.g d) (k.g d), by rw [costAll_app]; exact Nat.add_le_add h.c k.c, fun d hd => (List.mem_append.mp hd).elim (h.d d) (k.d d), fun d hd => (List.mem_append.mp hd).elim (h.w d) (k.w d)⟩
theorem Ths.nil : Ths m 0 D W [] := ⟨fun _ h => (List.not_mem_nil h).elim, Nat.le_refl _, fun _ h => (List.not_mem_nil h).elim, fun _ h => (List.not_mem_nil h).elim⟩
theorem Ths.one (h : Th m C D W x) : Ths m (C + 2) D W [x] :=
  ⟨fun d hd => by rw [List.mem_singleton.mp hd]; exact h.g, by show costAll.cost x + 2 + 0 ≤ _; have := h.c; omega, fun d hd => by rw [List.mem_singleton.mp hd]; exact h.d, fun d hd => by rw [List.mem_singleton.mp hd]; exact h.w⟩
theorem Ths.mem (h : Ths m C D W ds) (e : d ∈ ds) : Th m C D W d := ⟨h.g d e, by have := cost_mem e; have := h.c; omega, h.d d e, h.w d e⟩
theorem Ths.len (h : Ths m C D W ds) : 2 * ds.length ≤ C := Nat.le_trans (len_cost ds) h.c
theorem Ths.list (h : Ths m C D W ds) (l : ds.length ≤ W) : Th m (C + 3) (D + 1) W (.list ds) :=
  ⟨gdAll_iff.mpr h.g, by show costAll ds + 3 ≤ _; have := h.c; omega, by show PyData.depthAll ds + 1 ≤ _; have := depthAll_iff.mpr h.d; omega, by show max ds.length (widAll ds) ≤ W; exact Nat.max_le.mpr ⟨l, widAll_iff.mpr h.w⟩⟩
theorem Ths.tuple (h : Ths m C D W ds) (l : ds.length ≤ W) : Th m (C + 3) (D + 1) W (.tuple ds) :=
  ⟨gdAll_iff.mpr h.g, by show costAll ds + 3 ≤ _; have := h.c; omega, by show PyData.depthAll ds + 1 ≤ _; have := depthAll_iff.mpr h.d; omega, by show max ds.length (widAll ds) ≤ W; exact Nat.max_le.mpr ⟨l, widAll_iff.mpr h.w⟩⟩
theorem Th.ofList (h : Th m C D W (.list ds)) : Ths m (C - 3) (D - 1) W ds ∧ ds.length ≤ W ∧ 3 ≤ C ∧ 1 ≤ D := by
  have h1 : costAll ds + 3 ≤ C := h.c
  have h2 : PyData.depthAll ds + 1 ≤ D := h.d
  have h3 : max ds.length (widAll ds) ≤ W := h.w
  exact ⟨⟨gdAll_iff.mp h.g, by omega, depthAll_iff.mp (by omega), widAll_iff.mp (Nat.le_trans (Nat.le_max_right ..) h3)⟩, Nat.le_trans (Nat.le_max_left ..) h3, by omega, by omega⟩
theorem Th.ofTuple (h : Th m C D W (.tuple ds)) : Ths m (C - 3) (D - 1) W ds ∧ ds.length ≤ W ∧ 3 ≤ C ∧ 1 ≤ D := by
  have h1 : costAll ds + 3 ≤ C := h.c
  have h2 : PyData.depthAll ds + 1 ≤ D := h.d
  have h3 : max ds.length (widAll ds) ≤ W := h.w
  exact ⟨⟨gdAll_iff.mp h.g, by omega, depthAll_iff.mp (by omega), widAll_iff.mp (Nat.le_trans (Nat.le_max_right ..) h3)⟩, Nat.le_trans (Nat.le_max_left ..) h3, by omega, by omega⟩
theorem costAll_take (n : Nat) (ds : List PyData) : costAll (ds.take n) ≤ costAll ds := by
  have := costAll_app (ds.take n) (ds.drop n)
  rw [List.take_append_drop] at this; omega
theorem costAll_drop (n : Nat) (ds : List PyData) : costAll (ds.drop n) ≤ costAll ds := by
  have := costAll_app (ds.take n) (ds.drop n)
  rw [List.take_append_drop] at this; omega
theorem costAll_rev : ∀ ds : List PyData, costAll ds.reverse = costAll ds
  | [] => rfl
  | x :: xs => by rw [List.reverse_cons, costAll_app, costAll_rev xs]; show _ + (costAll.cost x + 2 + 0) = costAll.cost x + 2 + costAll xs; omega
theorem Ths.sub (h : Ths m C D W ds) (s : ∀ x ∈ xs, x ∈ ds) (c : costAll xs ≤ C) : Ths m C D W xs := ⟨fun d hd => h.g d (s d hd), c, fun d hd => h.d d (s d hd), fun d hd => h.w d (s d hd)⟩
theorem Ths.take (h : Ths m C D W ds) (n : Nat) : Ths m C D W (ds.take n) := h.sub (fun d hd => List.mem_of_mem_take hd) (Nat.le_trans (costAll_take n ds) h.c)
theorem Ths.drop (h : Ths m C D W ds) (n : Nat) : Ths m C D W (ds.drop n) := h.sub (fun d hd => List.mem_of_mem_drop hd) (Nat.le_trans (costAll_drop n ds) h.c)
theorem Ths.rev (h : Ths m C D W ds) : Ths m C D W ds.reverse := h.sub (fun d hd => List.mem_reverse.mp hd) (by rw [costAll_rev]; exact h.c)
theorem costAll_set : ∀ (ds : List PyData) (i : Nat) (x : PyData), costAll (ds.set i x) ≤ costAll ds + (costAll.cost x + 2)
  | [], _, _ => Nat.zero_le _
  | y :: ys, 0, x => by show costAll.cost x + 2 + costAll ys ≤ costAll.cost y + 2 + costAll ys + _; omega
  | y :: ys, i + 1, x => by
    have := costAll_set ys i x
    show costAll.cost y + 2 + costAll (ys.set i x) ≤ costAll.cost y + 2 + costAll ys + _
    omega
theorem Ths.set {i : Nat} (h : Ths m C D W ds) (k : Th m E D W x) : Ths m (C + E + 2) D W (ds.set i x) :=
  ⟨fun d hd => (List.mem_or_eq_of_mem_set hd).elim (h.g d) fun e => by rw [e]; exact k.g, Nat.le_trans (costAll_set ds i x) (by have := h.c; have := k.c; omega), fun d hd => (List.mem_or_eq_of_mem_set hd).elim (h.d d) fun e => by rw [e]; exact k.d, fun d hd => (List.mem_or_eq_of_mem_set hd).elim (h.w d) fun e => by rw [e]; exact k.w⟩
end
section
variable {K : PySem.W.Frag} {H : Hp}
theorem dpAll_app' : ∀ {xs ys : List V} {ds es : List PyData}, DpAll K H xs ds → DpAll K H ys es → DpAll K H (xs ++ ys) (ds ++ es)
  | _, _, _, _, .nil, h => h
  | _, _, _, _, .cons h t, h2 => .cons h (dpAll_app' t h2)
theorem dpAll_take : ∀ {xs : List V} {ds : List PyData} (n : Nat), DpAll K H xs ds → DpAll K H (xs.take n) (ds.take n)
  | _, _, 0, _ => .nil
  | _, _, _ + 1, .nil => .nil
  | _, _, n + 1, .cons h t => .cons h (dpAll_take n t)
theorem dpAll_drop : ∀ {xs : List V} {ds : List PyData} (n : Nat), DpAll K H xs ds → DpAll K H (xs.drop n) (ds.drop n)
  | _, _, 0, h => h
  | _, _, _ + 1, .nil => .nil
  | _, _, n + 1, .cons _ t => dpAll_drop n t
theorem dpAll_rev : ∀ {xs : List V} {ds : List PyData}, DpAll K H xs ds → DpAll K H xs.reverse ds.reverse
  | _, _, .nil => .nil
  | _, _, .cons h t => by rw [List.reverse_cons, List.reverse_cons]; exact dpAll_app' (dpAll_rev t) (.cons h .nil)
theorem dpAll_set : ∀ {xs : List V} {ds : List PyData} {i : Nat} {v : V} {d : PyData}, DpAll K H xs ds → Dp K H v d → DpAll K H (xs.set i v) (ds.set i d)
  | _, _, _, _, _, .nil, _ => .nil
  | _, _, 0, _, _, .cons _ t, k => .cons k t
  | _, _, _ + 1, _, _, .cons h t, k => .cons h (dpAll_set t k)
/-- a slice of a row of parts -/
theorem dp_cut {xs : List V} {ds : List PyData} {lo hi : Option Int} {m C D W : Nat} (h : DpAll K H xs ds) (t : Ths m C D W ds) : ∃ es, DpAll K H (cutV xs lo hi) es ∧ Ths m C D W es ∧ es.length ≤ ds.length := by
  unfold cutV
  exact ⟨_, dpAll_take _ (dpAll_drop _ h), (t.drop _).take _, by rw [List.length_take, List.length_drop]; omega⟩
theorem dp_lst' {v : V} {ds : List PyData} (h : Dp K H v (.list ds)) : ∃ a xs, v = .ref a ∧ SqL K H a xs ∧ DpAll K H xs ds := by
  cases h with
  | lst h a => exact ⟨_, _, rfl, h, a⟩
end
end Pot
namespace Pot
open PySem PySem.Spec PyProof.Rows L2
theorem sm_at {H H' : Hp} {S : List Addr} {x : Addr} {o : HO} (s : Sm S H H') (n : x ∉ S) (h : H x = some o) : H' x = some o := by
  have := s x o (by rw [off_out n]; exact h)
  rw [off_out n] at this; exact this
theorem sm1_at {H H' : Hp} {b x : Addr} {o : HO} (s : Sm [b] H H') (n : x ≠ b) (h : H x = some o) : H' x = some o := sm_at s (fun z => n (List.mem_singleton.mp z)) h
theorem smp {H H' : Hp} {S : List Addr} {p : Addr} {o : HO} (s : Sm S H H') (h : H p = none) : Sm S H (upd H' p o) := fun x u e => by
  have n := off_mem e
  have ne : x ≠ p := fun z => by
    rw [off_out n, z, h] at e; cases e
  have := s x u e
  rw [off_out n] at this ⊢
  rw [upd_ne ne]; exact this
theorem sm_free {H H' : Hp} {b l : Addr} (s : Sm [b] H H') (B : Bx H' b) (h : H' l = none) : H l = none := by
  have nb := B.ne h
  have n : l ∉ [b] := fun z => nb (List.mem_singleton.mp z)
  cases e : H l with
  | none => rfl
  | some o => rw [sm_at s n e] at h; cases h
theorem cut_map {α : Type} (f : α → V) (ns : List α) (lo hi : Option Int) : cutV (ns.map f) lo hi = ((ns.drop (HT.sIx ns.length 0 lo)).take (HT.sIx ns.length ns.length hi - HT.sIx ns.length 0 lo)).map f := by
  unfold cutV
  rw [List.length_map, List.map_take, List.map_drop]
theorem cut_head {xs : List V} {k : Nat} : cutV xs none (some (k : Int)) = xs.take k := by
  unfold cutV
  rw [HT.sIx_none, HT.sIx_nat, List.drop_zero, Nat.sub_zero]
  by_cases h : k ≤ xs.length
  · rw [Nat.min_eq_left h]
  · rw [Nat.min_eq_right (by omega), List.take_length, List.take_of_length_le (by omega)]
theorem cut_tail {xs : List V} {k : Nat} : cutV xs (some (k : Int)) none = xs.drop k := by
  unfold cutV
  rw [HT.sIx_none, HT.sIx_nat]
  by_cases h : k ≤ xs.length
  · rw [Nat.min_eq_left h, List.take_of_length_le (by rw [List.length_drop]; exact Nat.le_refl _)]
  · rw [Nat.min_eq_right (by omega), Nat.sub_self, List.take_zero, List.drop_of_length_le (by omega)]
end Pot
namespace Pot
open PySem PySem.Spec PyProof.Rows L2
section
variable {K : PySem.W.Frag} {H : Hp} {t : Addr} {d : PyData} {ds : List PyData}
theorem seq_dp {x : V} (h : Dp K H x d) (e : d = .list ds ∨ d = .tuple ds) : ∃ t zs, x = .ref t ∧ (SqL K H t zs ∨ SqT K H t zs) ∧ DpAll K H zs ds := by
  rcases e with rfl | rfl
  · cases h with
    | lst h a => exact ⟨_, _, rfl, .inl h, a⟩
  · cases h with
    | tup h a => exact ⟨_, _, rfl, .inr h, a⟩
theorem len_dp (h : Dp K H (.ref t) d) (e : d = .list ds ∨ d = .tuple ds) : LenV K (.ref t) H ds.length := by
  rcases e with rfl | rfl
  · cases h with
    | lst h a => exact .inl ⟨_, h, (dpAll_len a).symm⟩
  · cases h with
    | tup h a => exact .inr ⟨_, h, (dpAll_len a).symm⟩
theorem Th.parts {m C D W : Nat} (h : Th m C D W d) (e : d = .list ds ∨ d = .tuple ds) : Ths m (C - 3) (D - 1) W ds ∧ ds.length ≤ W ∧ 3 ≤ C ∧ 1 ≤ D := by
  rcases e with rfl | rfl
  · exact h.ofList
  · exact h.ofTuple
end
theorem sm_in {H H' : Hp} {S : List Addr} {x : Addr} {o : HO} (s : Sm S H H') (h : off H S x = some o) : off H' S x = some o := s x o h
end Pot
namespace Pot
open PySem PySem.Spec PyProof.Rows L2
theorem costAll_set_eq : ∀ {ds : List PyData} {i : Nat} {x y : PyData}, ds[i]? = some y → costAll (ds.set i x) + costAll.cost y = costAll ds + costAll.cost x
  | [], _, _, _, h => by simp at h
  | z :: zs, 0, x, y, h => by
    have e : z = y := by simpa using h
    subst e
    show costAll.cost x + 2 + costAll zs + costAll.cost z = costAll.cost z + 2 + costAll zs + costAll.cost x
    omega
  | z :: zs, i + 1, x, y, h => by
    have := costAll_set_eq (ds := zs) (i := i) (x := x) (y := y) (by simpa using h)
    show costAll.cost z + 2 + costAll (zs.set i x) + costAll.cost y = costAll.cost z + 2 + costAll zs + costAll.cost x
    omega
theorem codes_ofString (s : String) : ∀ c ∈ (Str.ofString s).cps.toList, c < 1114112 := by
  intro c hc
  rw [Str.ofString_eq_toList] at hc
  have : c ∈ s.toList.map Char.toNat := by simpa using hc
  obtain ⟨ch, _, rfl⟩ := List.mem_map.mp this
  have v := ch.valid
  have e : ch.toNat = ch.val.toNat := rfl
  rcases v with v | ⟨_, v⟩
  · have : ch.val.toNat < 0xD800 := v
    omega
  · have : ch.val.toNat < 0x110000 := v
    omega
theorem th_text {i : Int} (h : i.natAbs ≤ 2000000) {m : Nat} : Th m 19212 0 0 (.str (toString i)) := by
  have l : (Str.ofString (toString i)).length ≤ 1921 := PyProof.Rows.int_text_len_1921 (log_small' h)
  exact ⟨⟨by omega, codes_ofString _⟩, by show 10 * (Str.ofString (toString i)).length + 2 ≤ 19212; omega, Nat.le_refl _, Nat.le_refl _⟩
end Pot

namespace Pot
open PySem PySem.Spec PyProof.Rows L2
theorem Ths.parts2 {m C E D W a b : Nat} {ds es : List PyData} (h : Ths m C D W ds) (hab : a ≤ b) (k : Ths m E D W es) : Ths m (C + E) D W (ds.take a ++ es ++ ds.drop b) := by
  have mem : ∀ d, d ∈ ds.take a ++ es ++ ds.drop b → d ∈ ds ∨ d ∈ es := fun d hd => by
    rcases List.mem_append.mp hd with z | z
    · rcases List.mem_append.mp z with y | y
      · exact .inl (List.mem_of_mem_take y)
      · exact .inr y
    · exact .inl (List.mem_of_mem_drop z)
  refine ⟨fun d hd => (mem d hd).elim (h.g d) (k.g d), ?_, fun d hd => (mem d hd).elim (h.d d) (k.d d), fun d hd => (mem d hd).elim (h.w d) (k.w d)⟩
  rw [costAll_app, costAll_app]
  have e := costAll_app (ds.take a) (ds.drop a)
  rw [List.take_append_drop] at e
  have e2 : ds.drop b = (ds.drop a).drop (b - a) := by rw [List.drop_drop]; congr 1; omega
  have e3 := costAll_drop (b - a) (ds.drop a)
  rw [← e2] at e3
  have := h.c
  have := k.c
  omega
end Pot

namespace Pot
open PySem PySem.Spec PyProof.Rows L2
theorem nodup_le {α : Type} [BEq α] [LawfulBEq α] : ∀ {ks l : List α}, ks.Nodup → (∀ k ∈ ks, k ∈ l) → ks.length ≤ l.length
  | [], _, _, _ => Nat.zero_le _
  | k :: ks, l, h, s => by
    have hk := s k List.mem_cons_self
    have h2 := (List.nodup_cons.mp h)
    have := nodup_le (ks := ks) (l := l.erase k) h2.2 fun x hx => by
      have ne : x ≠ k := fun e => h2.1 (e ▸ hx)
      exact (List.mem_erase_of_ne ne).mpr (s x (List.mem_cons_of_mem _ hx))
    rw [List.length_erase_of_mem hk] at this
    have : 0 < l.length := List.length_pos_of_mem hk
    simp only [List.length_cons]
    omega
section
variable {X : Cx} {K : PySem.W.Frag}
theorem ko_notIn (h : X.K = K := by rfl) : OpR X (compareOp .NotIn) (rIn K true) := h ▸ op_notIn_seq
/-- set(xs) of ints: how many members it has -/
def rSetLj (K : PySem.W.Frag) (w : World) : List V → Hp → VK → Prop := fun xs H Q => ∃ (a : Addr) (ns : List Int), xs = [V.ref a] ∧ SqL K H a (ns.map V.int) ∧ ns.length ≤ 4000 ∧
  ∀ (p : Addr) (ks : List Int), H p = none → ks.Nodup → (∀ k, k ∈ ks ↔ k ∈ ns) → Q (.ref p) (upd H p (SetO w p (fun k => decide (k ∈ ns)) ks.length))
theorem cr_setLj (hc : X.calm = true) : CallR X (.type "set") (rSetLj X.K X.w) := by
  intro pins s σ H vs us Q I r h
  obtain ⟨a, ns, rfl, hS, hl, q⟩ := h
  rw [Vals.ref1 r]
  obtain ⟨its, rv, pl, hz⟩ := I.list hS
  refine call_set_li ns (I.ok.hd hc) pl.isList (by simpa using Vals.ints rv) (by unfold scanBound; omega) fun s' f => ?_
  obtain ⟨h', tk, c, rfl, R, hcn, k⟩ := f
  have hn : H s.heap.objs.size = none := I.hok.fresh (Nat.le_refl _)
  have J : Inv X pins σ (upd H s.heap.objs.size (SetO X.w s.heap.objs.size (fun k => decide (k ∈ ns)) c)) { s with heap := h', toks := tk } := I.laid (t' := tk) k (Nat.le_refl _) (setO_new R)
  obtain ⟨o, es, ep, t, _, _, _, _, nod, mem, _, _, size, _⟩ := R
  have q2 := q s.heap.objs.size (es.toList.map keyOf) hn nod fun k => by rw [← mem k, decide_eq_true_eq]
  rw [List.length_map, Array.length_toList, size] at q2
  exact ⟨.ref s.heap.objs.size, _, J, rfl, q2⟩
theorem kc_setLj {w : World} (hc : X.calm = true := by rfl) (h : X.K = K := by rfl) (hw : X.w = w := by rfl) : CallR X (.type "set") (rSetLj K w) := by subst h; subst hw; exact cr_setLj hc
end
end Pot

namespace Pot
open PySem PySem.Spec PyProof.Rows L2
/-! ### kinds of data -/
def tyD : PyData → String
  | .none => "NoneType"
  | .bool _ => "bool"
  | .int _ => "int"
  | .str _ => "str"
  | .list _ => "list"
  | .tuple _ => "tuple"
  | .dict _ => "dict"
def isIntD : PyData → Bool
  | .int _ => true
  | .bool _ => true
  | _ => false
def isBoolD : PyData → Bool
  | .bool _ => true
  | _ => false
def isStrD : PyData → Bool
  | .str _ => true
  | _ => false
def isListD : PyData → Bool
  | .list _ => true
  | _ => false
def isTupD : PyData → Bool
  | .tuple _ => true
  | _ => false
section
variable {K : PySem.W.Frag} {H : Hp} {x : V} {d : PyData} {Q : VK}
theorem tyx_dp (h : Dp K H x d) : TyX K H x (.type (tyD d)) := by
  cases h with
  | non => exact .base .non
  | bl b => exact .base (.bl b)
  | int i => exact .base (.int i)
  | str z => exact .base (.str z)
  | lst h _ => exact tyx_list h
  | tup h _ => exact tyx_tup h
theorem kit_int (h : Dp K H x d) : PySem.W.kitOne K (.type (tyD d)) (.type "int") = some (isIntD d) := by
  cases h with
  | non => exact kit_ty (show kitB "NoneType" "int" = some false by decide +kernel)
  | bl _ => exact kit_ty (show kitB "bool" "int" = some true by decide +kernel)
  | int _ => exact kit_ty (show kitB "int" "int" = some true by decide +kernel)
  | str _ => exact kit_ty (show kitB "str" "int" = some false by decide +kernel)
  | lst _ _ => exact kit_ty (show kitB "list" "int" = some false by decide +kernel)
  | tup _ _ => exact kit_ty (show kitB "tuple" "int" = some false by decide +kernel)
theorem kit_bool (h : Dp K H x d) : PySem.W.kitOne K (.type (tyD d)) (.type "bool") = some (isBoolD d) := by
  cases h with
  | non => exact kit_ty (show kitB "NoneType" "bool" = some false by decide +kernel)
  | bl _ => exact kit_ty (show kitB "bool" "bool" = some true by decide +kernel)
  | int _ => exact kit_ty (show kitB "int" "bool" = some false by decide +kernel)
  | str _ => exact kit_ty (show kitB "str" "bool" = some false by decide +kernel)
  | lst _ _ => exact kit_ty (show kitB "list" "bool" = some false by decide +kernel)
  | tup _ _ => exact kit_ty (show kitB "tuple" "bool" = some false by decide +kernel)
theorem kit_str (h : Dp K H x d) : PySem.W.kitOne K (.type (tyD d)) (.type "str") = some (isStrD d) := by
  cases h with
  | non => exact kit_ty (show kitB "NoneType" "str" = some false by decide +kernel)
  | bl _ => exact kit_ty (show kitB "bool" "str" = some false by decide +kernel)
  | int _ => exact kit_ty (show kitB "int" "str" = some false by decide +kernel)
  | str _ => exact kit_ty (show kitB "str" "str" = some true by decide +kernel)
  | lst _ _ => exact kit_ty (show kitB "list" "str" = some false by decide +kernel)
  | tup _ _ => exact kit_ty (show kitB "tuple" "str" = some false by decide +kernel)
theorem kit_list (h : Dp K H x d) : PySem.W.kitOne K (.type (tyD d)) (.type "list") = some (isListD d) := by
  cases h with
  | non => exact kit_ty (show kitB "NoneType" "list" = some false by decide +kernel)
  | bl _ => exact kit_ty (show kitB "bool" "list" = some false by decide +kernel)
  | int _ => exact kit_ty (show kitB "int" "list" = some false by decide +kernel)
  | str _ => exact kit_ty (show kitB "str" "list" = some false by decide +kernel)
  | lst _ _ => exact kit_ty (show kitB "list" "list" = some true by decide +kernel)
  | tup _ _ => exact kit_ty (show kitB "tuple" "list" = some false by decide +kernel)
theorem kit_tup (h : Dp K H x d) : PySem.W.kitOne K (.type (tyD d)) (.type "tuple") = some (isTupD d) := by
  cases h with
  | non => exact kit_ty (show kitB "NoneType" "tuple" = some false by decide +kernel)
  | bl _ => exact kit_ty (show kitB "bool" "tuple" = some false by decide +kernel)
  | int _ => exact kit_ty (show kitB "int" "tuple" = some false by decide +kernel)
  | str _ => exact kit_ty (show kitB "str" "tuple" = some false by decide +kernel)
  | lst _ _ => exact kit_ty (show kitB "list" "tuple" = some false by decide +kernel)
  | tup _ _ => exact kit_ty (show kitB "tuple" "tuple" = some true by decide +kernel)
theorem kit_lt (h : Dp K H x d) : PySem.W.kitAny K (.type (tyD d)) [.type "list", .type "tuple"] = some (isListD d || isTupD d) := by
  cases h <;> rfl
end
/-! ### numbers within bounds -/
def numD (lo hi : Int) : PyData → Bool
  | .int i => decide (lo ≤ i) && decide (i ≤ hi)
  | _ => false
def toI : PyData → Int
  | .int i => i
  | _ => 0
theorem numD_int {lo hi : Int} : ∀ {d : PyData}, numD lo hi d = true → d = .int (toI d) ∧ lo ≤ toI d ∧ toI d ≤ hi
  | .int i, h => by
    obtain ⟨h1, h2⟩ := Bool.and_eq_true_iff.mp (show (decide (lo ≤ i) && decide (i ≤ hi)) = true from h)
    exact ⟨rfl, of_decide_eq_true h1, of_decide_eq_true h2⟩
/-- rising -/
def risI : List Int → Bool
  | a :: b :: r => decide (a < b) && risI (b :: r)
  | _ => true
def risD (lo hi : Int) : PyData → Bool
  | .list ds => ds.all (numD lo hi) && risI (ds.map toI)
  | _ => false
theorem risI_pair : ∀ {ns : List Int}, risI ns = true ↔ ns.Pairwise (· < ·)
  | [] => by simp [risI]
  | [a] => by simp [risI]
  | a :: b :: r => by
    have ih := risI_pair (ns := b :: r)
    show (decide (a < b) && risI (b :: r)) = true ↔ _
    rw [Bool.and_eq_true_iff, decide_eq_true_eq, ih]
    constructor
    · rintro ⟨h1, h2⟩
      refine List.pairwise_cons.mpr ⟨fun x hx => ?_, h2⟩
      rcases List.mem_cons.mp hx with e | e
      · rw [e]; exact h1
      · exact Int.lt_trans h1 ((List.pairwise_cons.mp h2).1 x e)
    · intro h
      obtain ⟨h1, h2⟩ := List.pairwise_cons.mp h
      exact ⟨h1 b List.mem_cons_self, h2⟩
theorem nums_of {lo hi : Int} {ds : List PyData} (h : ds.all (numD lo hi) = true) : ds = (ds.map toI).map PyData.int ∧ ∀ k ∈ ds.map toI, lo ≤ k ∧ k ≤ hi := by
  rw [List.all_eq_true] at h
  constructor
  · rw [List.map_map]
    conv => lhs; rw [← List.map_id ds]
    exact List.map_congr_left fun d hd => (numD_int (h d hd)).1
  · intro k hk
    obtain ⟨d, hd, rfl⟩ := List.mem_map.mp hk
    exact (numD_int (h d hd)).2
section
variable {K : PySem.W.Frag} {H : Hp}
theorem dp_intsV : ∀ {xs : List V} {ns : List Int}, DpAll K H xs (ns.map PyData.int) → xs = ns.map V.int
  | [], [], _ => rfl
  | [], _ :: _, h => by cases h
  | _ :: _, [], h => by cases h
  | x :: xs, n :: ns, h => by
    cases h with
    | cons h t => cases h; rw [dp_intsV t]; rfl
end
/-- of a row that rises just the same: a row in which all stand in order, none twice -/
theorem sorted_uniq : ∀ {xs ys : List Int}, xs.Pairwise (· < ·) → ys.Pairwise (· < ·) → (∀ k, k ∈ xs ↔ k ∈ ys) → xs = ys
  | [], [], _, _, _ => rfl
  | [], y :: ys, _, _, h => by have := (h y).mpr List.mem_cons_self; simp at this
  | x :: xs, [], _, _, h => by have := (h x).mp List.mem_cons_self; simp at this
  | x :: xs, y :: ys, h1, h2, h => by
    rw [List.pairwise_cons] at h1 h2
    have e : x = y := by
      rcases List.mem_cons.mp ((h x).mp List.mem_cons_self) with e | e
      · exact e
      · rcases List.mem_cons.mp ((h y).mpr List.mem_cons_self) with e2 | e2
        · exact e2.symm
        · have := h2.1 x e; have := h1.1 y e2; omega
    subst e
    have : xs = ys := sorted_uniq h1.2 h2.2 fun k => by
      constructor
      · intro hk
        rcases List.mem_cons.mp ((h k).mp (List.mem_cons_of_mem _ hk)) with e | e
        · have := h1.1 k hk; omega
        · exact e
      · intro hk
        rcases List.mem_cons.mp ((h k).mpr (List.mem_cons_of_mem _ hk)) with e | e
        · have := h2.1 k hk; omega
        · exact e
    rw [this]
theorem eqv_ints : ∀ xs ys : List Int, PyData.eqv (.list (xs.map PyData.int)) (.list (ys.map PyData.int)) = decide (xs = ys)
  | [], [] => rfl
  | [], _ :: _ => rfl
  | _ :: _, [] => rfl
  | x :: xs, y :: ys => by
    have ih := eqv_ints xs ys
    show (PyData.eqv (.int x) (.int y) && PyData.eqvAll (xs.map PyData.int) (ys.map PyData.int)) = _
    rw [show PyData.eqvAll (xs.map PyData.int) (ys.map PyData.int) = decide (xs = ys) from ih]
    show ((x == y) && _) = _
    by_cases h : x = y
    · subst h; simp
    · simp [h]
/-- thing == sorted(set(thing)): just where it rises -/
theorem eq_sorted {ns zs : List Int} (h : zs.Pairwise (· < ·)) (m : ∀ k, k ∈ zs ↔ k ∈ ns) : decide (ns = zs) = risI ns := by
  by_cases e : ns = zs
  · rw [decide_eq_true e, e]; exact (risI_pair.mpr h).symm
  · rw [decide_eq_false e]
    cases hr : risI ns with
    | false => rfl
    | true => exact absurd (sorted_uniq (risI_pair.mp hr) h fun k => (m k).symm) e
theorem nodup_60 {ks : List Int} (h : ks.Nodup) (b : ∀ k ∈ ks, 0 ≤ k ∧ k ≤ 60) : ks.length < 64 := by
  have := nodup_le (l := (List.range 61).map fun (i : Nat) => (i : Int)) h fun k hk => by
    obtain ⟨h0, h1⟩ := b k hk
    exact List.mem_map.mpr ⟨k.toNat, List.mem_range.mpr (by omega), by omega⟩
  rw [List.length_map, List.length_range] at this
  omega
end Pot
namespace Pot
open PySem PySem.Spec PyProof.Rows L2
/-! ### a comprehension that changes nothing that stood: out i is what is told up to turn i -/
def PvL (H1 : Hp) (D : Addr) (out : Nat → List V) (i : Nat) (H2 : Hp) : Prop := Same H1 H2 ∧ H2 D = some (.lst (out i))
section
variable {H1 H2 H3 : Hp} {D : Addr} {out : Nat → List V} {i : Nat} {y : V}
theorem pv_start (nD : H1 D = none) (e : out 0 = []) : PvL H1 D out 0 (upd H1 D (.lst [])) := ⟨same_upd nD, by rw [e]; exact upd_same⟩
theorem pv_put (nD : H1 D = none) (p : PvL H1 D out i H2) (s : Same H2 H3) (e : out (i + 1) = out i ++ [y]) (l : (out i).length < sizeLine) : ∃ acc, H3 D = some (.lst acc) ∧ acc.length < sizeLine ∧ PvL H1 D out (i + 1) (upd H3 D (.lst (acc ++ [y]))) :=
  ⟨out i, s _ _ p.2, l, same_put (p.1.trans s) nD, by rw [e]; exact upd_same⟩
theorem pv_skip (p : PvL H1 D out i H2) (s : Same H2 H3) (e : out (i + 1) = out i) : PvL H1 D out (i + 1) H3 := ⟨p.1.trans s, by rw [e]; exact s _ _ p.2⟩
end
theorem take_map {α : Type} (f : α → V) {l : List α} {i : Nat} {x : α} (h : l[i]? = some x) : (l.take (i + 1)).map f = (l.take i).map f ++ [f x] := by
  rw [List.take_add_one, h, List.map_append]; rfl
theorem take_len_lt {α : Type} {f : α → V} {l : List α} {i : Nat} (h : i < 100000) : ((l.take i).map f).length < sizeLine := by
  rw [List.length_map, List.length_take, sizeLine_eq]; omega
theorem take_len_le {α : Type} {f : α → V} {l : List α} {i : Nat} (h : l.length < 100000) : ((l.take i).map f).length < sizeLine := by
  rw [List.length_map, List.length_take, sizeLine_eq]; omega
/-- each below the next -/
def rb : List Int → List Bool
  | a :: b :: r => decide (a < b) :: rb (b :: r)
  | _ => []
theorem rb_all : ∀ ns : List Int, (rb ns).all id = risI ns
  | [] => rfl
  | [_] => rfl
  | a :: b :: r => by show (decide (a < b) && (rb (b :: r)).all id) = _; rw [rb_all (b :: r)]; rfl
theorem rb_len : ∀ ns : List Int, (rb ns).length = ns.length - 1
  | [] => rfl
  | [_] => rfl
  | a :: b :: r => by show (rb (b :: r)).length + 1 = _; rw [rb_len (b :: r)]; simp
theorem rb_at : ∀ {ns : List Int} {i : Nat} {x y : Int}, ns[i]? = some x → ns[i + 1]? = some y → (rb ns)[i]? = some (decide (x < y))
  | [], _, _, _, h, _ => by simp at h
  | [_], i, _, _, _, h => by simp at h
  | a :: b :: r, 0, x, y, h, k => by
    have e1 : a = x := by simpa using h
    have e2 : b = y := by simpa using k
    subst e1 e2; rfl
  | a :: b :: r, i + 1, x, y, h, k => rb_at (ns := b :: r) (i := i) (by simpa using h) (by simpa using k)
/-- what is told of each of some data -/
theorem all_map {ds : List PyData} {f : PyData → Bool} : (ds.map f).all id = ds.all f := by
  rw [List.all_map]; rfl
end Pot
namespace Pot
open PySem PySem.Spec PyProof.Rows L2
theorem pv_end {H1 H2 : Hp} {D : Addr} {out : Nat → List V} {n : Nat} {zs : List V} (p : PvL H1 D out n H2) (e : out n = zs) : Same H1 H2 ∧ H2 D = some (.lst zs) := ⟨p.1, by rw [← e]; exact p.2⟩
theorem take_all {α : Type} {f : α → V} {l : List α} {n : Nat} (h : l.length ≤ n) : (l.take n).map f = l.map f := by rw [List.take_of_length_le h]
end Pot

namespace Pot
open PySem PySem.Spec PyProof.Rows L2
/-! ### palettes as data -/
abbrev Col := Str × Int × Int × Int
abbrev Wsh := Str × Str × Option Int
def colD (c : Col) : PyData := .tuple [.str c.1, .int c.2.1, .int c.2.2.1, .int c.2.2.2]
def optD : Option Int → PyData
  | none => .none
  | some i => .int i
def washD (r : Wsh) : PyData := .tuple [.str r.1, .str r.2.1, optD r.2.2]
def palD (cs : List Col) (ws : List Wsh) : PyData := .tuple [.tuple (cs.map colD), .tuple (ws.map washD)]
def optV : Option Int → V
  | none => .non
  | some i => .int i
def namV : Option Str → V
  | none => .non
  | some z => .str z
/-- the washing between two: the first row that tells -/
def washF (ws : List Wsh) (a : Option Str) (b : Str) : Option Int := match ws with
  | [] => some 0
  | r :: ws => if some r.1 = a ∧ r.2.1 = b then r.2.2 else washF ws a b
/-- the washing of a row -/
def sumF (ws : List Wsh) : Option Str → List Str → Int → Option Int
  | _, [], h => some h
  | a, b :: r, h => match washF ws a b with
    | none => none
    | some k => sumF ws (some b) r (h + k)
section
variable {K : PySem.W.Frag} {H : Hp}
theorem dp_tup {v : V} {ds : List PyData} (h : Dp K H v (.tuple ds)) : ∃ a xs, v = .ref a ∧ SqT K H a xs ∧ DpAll K H xs ds := by
  cases h with
  | tup h a => exact ⟨_, _, rfl, h, a⟩
theorem dp_lst {v : V} {ds : List PyData} (h : Dp K H v (.list ds)) : ∃ a xs, v = .ref a ∧ SqL K H a xs ∧ DpAll K H xs ds := by
  cases h with
  | lst h a => exact ⟨_, _, rfl, h, a⟩
theorem dp_str {v : V} {z : Str} (h : Dp K H v (.str z)) : v = .str z := by cases h; rfl
theorem dp_int {v : V} {z : Int} (h : Dp K H v (.int z)) : v = .int z := by cases h; rfl
theorem dp_opt {v : V} : ∀ {z : Option Int}, Dp K H v (optD z) → v = optV z
  | none, h => by cases h; rfl
  | some i, h => by cases h; rfl
theorem opt_dp : ∀ (z : Option Int), Dp K H (optV z) (optD z)
  | none => .non
  | some i => .int i
theorem dp_two {xs : List V} {d e : PyData} (h : DpAll K H xs [d, e]) : ∃ x y, xs = [x, y] ∧ Dp K H x d ∧ Dp K H y e := by
  cases h with
  | cons h1 t => cases t with
    | cons h2 t => cases t; exact ⟨_, _, rfl, h1, h2⟩
theorem dp_three {xs : List V} {d e f : PyData} (h : DpAll K H xs [d, e, f]) : ∃ x y z, xs = [x, y, z] ∧ Dp K H x d ∧ Dp K H y e ∧ Dp K H z f := by
  cases h with
  | cons h1 t => obtain ⟨y, z, rfl, h2, h3⟩ := dp_two t; exact ⟨_, _, _, rfl, h1, h2, h3⟩
theorem dp_four {xs : List V} {d e f g : PyData} (h : DpAll K H xs [d, e, f, g]) : ∃ x y z u, xs = [x, y, z, u] ∧ Dp K H x d ∧ Dp K H y e ∧ Dp K H z f ∧ Dp K H u g := by
  cases h with
  | cons h1 t => obtain ⟨y, z, u, rfl, h2, h3, h4⟩ := dp_three t; exact ⟨_, _, _, _, rfl, h1, h2, h3, h4⟩
/-- a colour's tuple -/
theorem col_dp {v : V} {c : Col} (h : Dp K H v (colD c)) : ∃ a, v = .ref a ∧ SqT K H a [.str c.1, .int c.2.1, .int c.2.2.1, .int c.2.2.2] := by
  obtain ⟨a, xs, rfl, hs, ha⟩ := dp_tup h
  obtain ⟨x, y, z, u, rfl, h1, h2, h3, h4⟩ := dp_four ha
  rw [dp_str h1, dp_int h2, dp_int h3, dp_int h4] at hs
  exact ⟨a, rfl, hs⟩
theorem wash_dp {v : V} {r : Wsh} (h : Dp K H v (washD r)) : ∃ a, v = .ref a ∧ SqT K H a [.str r.1, .str r.2.1, optV r.2.2] := by
  obtain ⟨a, xs, rfl, hs, ha⟩ := dp_tup h
  obtain ⟨x, y, z, rfl, h1, h2, h3⟩ := dp_three ha
  rw [dp_str h1, dp_str h2, dp_opt h3] at hs
  exact ⟨a, rfl, hs⟩
/-- a palette in the heap -/
theorem pal_dp {v : V} {cs : List Col} {ws : List Wsh} (h : Dp K H v (palD cs ws)) :
    ∃ p c w xs ys, v = .ref p ∧ SqT K H p [.ref c, .ref w] ∧ SqT K H c xs ∧ DpAll K H xs (cs.map colD) ∧ SqT K H w ys ∧ DpAll K H ys (ws.map washD) := by
  obtain ⟨p, zs, rfl, hp, hz⟩ := dp_tup h
  obtain ⟨x, y, rfl, h1, h2⟩ := dp_two hz
  obtain ⟨c, xs, rfl, hc, hx⟩ := dp_tup h1
  obtain ⟨w, ys, rfl, hw, hy⟩ := dp_tup h2
  exact ⟨p, c, w, xs, ys, rfl, hp, hc, hx, hw, hy⟩
theorem dpAll_map_at {α : Type} {f : α → PyData} {xs : List V} {l : List α} {i : Nat} {x : V} (h : DpAll K H xs (l.map f)) (e : xs[i]? = some x) : ∃ y, l[i]? = some y ∧ Dp K H x (f y) := by
  obtain ⟨d, g, p⟩ := dpAll_at h e
  rw [List.getElem?_map] at g
  obtain ⟨y, hy, rfl⟩ := Option.map_eq_some_iff.mp g
  exact ⟨y, hy, p⟩
theorem dpAll_map_len {α : Type} {f : α → PyData} {xs : List V} {l : List α} (h : DpAll K H xs (l.map f)) : xs.length = l.length := by
  rw [dpAll_len h, List.length_map]
end
theorem decS {a b : Str} : decide (V.str a = V.str b) = decide (a = b) := by
  by_cases h : a = b
  · subst h; rw [decide_eq_true rfl, decide_eq_true rfl]
  · rw [decide_eq_false h, decide_eq_false fun z => h (V.str.inj z)]
/-- behind rows that don't tell -/
theorem washF_skip {a : Option Str} {b : Str} : ∀ {ws : List Wsh} {i : Nat}, (∀ j r, j < i → ws[j]? = some r → ¬ (some r.1 = a ∧ r.2.1 = b)) → washF ws a b = washF (ws.drop i) a b
  | ws, 0, _ => rfl
  | [], i + 1, _ => rfl
  | r :: ws, i + 1, h => by
    show (if some r.1 = a ∧ r.2.1 = b then r.2.2 else washF ws a b) = washF (ws.drop i) a b
    rw [if_neg (h 0 r (Nat.succ_pos _) rfl)]
    exact washF_skip (a := a) (b := b) (ws := ws) (i := i) fun j q hj e => h (j + 1) q (Nat.succ_lt_succ hj) e
theorem washF_at {a : Option Str} {b : Str} {ws : List Wsh} {i : Nat} {r : Wsh} (h : ∀ j r, j < i → ws[j]? = some r → ¬ (some r.1 = a ∧ r.2.1 = b)) (e : ws[i]? = some r) (hr : some r.1 = a ∧ r.2.1 = b) : washF ws a b = r.2.2 := by
  rw [washF_skip h, List.drop_eq_getElem_cons (List.getElem?_eq_some_iff.mp e).1, (List.getElem?_eq_some_iff.mp e).2]
  unfold washF
  rw [if_pos hr]
theorem washF_none {a : Option Str} {b : Str} {ws : List Wsh} (h : ∀ j r, j < ws.length → ws[j]? = some r → ¬ (some r.1 = a ∧ r.2.1 = b)) : washF ws a b = some 0 := by
  rw [washF_skip h, List.drop_length]
  rfl
/-! ### data without lists stays while the law draws -/
def noLAll : List PyData → Prop
  | [] => True
  | x :: xs => noL x ∧ noLAll xs
where noL : PyData → Prop
  | .list _ => False
  | .dict _ => False
  | .tuple xs => noLAll xs
  | _ => True
section
variable {K : PySem.W.Frag}
theorem kp_tup {d c : Addr} {H H' : Hp} {n : Nat} {a : Addr} {xs : List V} (st : StAt H d c n) (k : Kp d c H H') (h : SqT K H a xs) : SqT K H' a xs := by
  obtain ⟨_, ys, t, h1, h2, _⟩ := st
  have go : ∀ o, (H a = some (.tup xs) ∨ H a = some (.frz o (.tup xs))) → a ≠ d ∧ a ≠ c := fun o e => by
    constructor
    · intro z; subst z; rw [h1] at e; rcases e with e | e <;> cases e
    · intro z; subst z; rw [h2] at e; rcases e with e | e <;> cases e
  rcases h with (h | ⟨o, h⟩) | h
  · have g := go ⟨.none, none, .fields #[], #[]⟩ (.inl h); exact .inl (.inl (k _ _ g.1 g.2 h))
  · have g := go o (.inr h); exact .inl (.inr ⟨o, k _ _ g.1 g.2 h⟩)
  · exact .inr h
mutual
theorem dp_kp {d c : Addr} {H H' : Hp} {n : Nat} (st : StAt H d c n) (k : Kp d c H H') : ∀ {v : V} {e : PyData}, noLAll.noL e → Dp K H v e → Dp K H' v e
  | _, _, _, .non => .non
  | _, _, _, .bl b => .bl b
  | _, _, _, .int i => .int i
  | _, _, _, .str x => .str x
  | _, _, h, .lst _ _ => h.elim
  | _, _, h, .tup s a => .tup (kp_tup st k s) (dpAll_kp st k h a)
theorem dpAll_kp {d c : Addr} {H H' : Hp} {n : Nat} (st : StAt H d c n) (k : Kp d c H H') : ∀ {vs : List V} {es : List PyData}, noLAll es → DpAll K H vs es → DpAll K H' vs es
  | _, _, _, .nil => .nil
  | _, _, h, .cons x t => .cons (dp_kp st k h.1 x) (dpAll_kp st k h.2 t)
end
mutual
theorem dp_go {H H' : Hp} (go : ∀ a us, SqT K H a us → SqT K H' a us) : ∀ {v : V} {e : PyData}, noLAll.noL e → Dp K H v e → Dp K H' v e
  | _, _, _, .non => .non
  | _, _, _, .bl b => .bl b
  | _, _, _, .int i => .int i
  | _, _, _, .str x => .str x
  | _, _, h, .lst _ _ => h.elim
  | _, _, h, .tup s a => .tup (go _ _ s) (dpAll_go go h a)
theorem dpAll_go {H H' : Hp} (go : ∀ a us, SqT K H a us → SqT K H' a us) : ∀ {vs : List V} {es : List PyData}, noLAll es → DpAll K H vs es → DpAll K H' vs es
  | _, _, _, .nil => .nil
  | _, _, h, .cons x t => .cons (dp_go go h.1 x) (dpAll_go go h.2 t)
end
theorem noL_map {α : Type} {f : α → PyData} (h : ∀ x, noLAll.noL (f x)) : ∀ l : List α, noLAll (l.map f)
  | [] => trivial
  | x :: r => ⟨h x, noL_map h r⟩
theorem noL_col (c : Col) : noLAll.noL (colD c) := ⟨trivial, trivial, trivial, trivial, trivial⟩
theorem noL_wash (r : Wsh) : noLAll.noL (washD r) := ⟨trivial, trivial, by cases r.2.2 <;> trivial, trivial⟩
theorem noL_pal (cs : List Col) (ws : List Wsh) : noLAll.noL (palD cs ws) := ⟨noL_map noL_col cs, noL_map noL_wash ws, trivial⟩
theorem dpAll_app {H : Hp} : ∀ {xs ys : List V} {ds es : List PyData}, DpAll K H xs ds → DpAll K H ys es → DpAll K H (xs ++ ys) (ds ++ es)
  | _, _, _, _, .nil, h => h
  | _, _, _, _, .cons h t, h2 => .cons h (dpAll_app t h2)
end
/-! ### how long a palette's text may be -/
structure PalOk (cs : List Col) (ws : List Wsh) : Prop where
  nc : cs.length ≤ 20
  nw : ws.length ≤ 60
  cn : ∀ c ∈ cs, c.1.length ≤ 9 ∧ (∀ x ∈ c.1.cps.toList, x < 1114112) ∧ c.2.1.natAbs < 10000 ∧ c.2.2.1.natAbs < 10000 ∧ c.2.2.2.natAbs < 10000
  wn : ∀ r ∈ ws, (r.1.length ≤ 9 ∧ ∀ x ∈ r.1.cps.toList, x < 1114112) ∧ (r.2.1.length ≤ 9 ∧ ∀ x ∈ r.2.1.cps.toList, x < 1114112) ∧ ∀ i, r.2.2 = some i → i.natAbs < 10000
theorem PalOk.addC {cs : List Col} {ws : List Wsh} {c : Col} (h : PalOk cs ws) (n : cs.length < 20) (ok : c.1.length ≤ 9 ∧ (∀ x ∈ c.1.cps.toList, x < 1114112) ∧ c.2.1.natAbs < 10000 ∧ c.2.2.1.natAbs < 10000 ∧ c.2.2.2.natAbs < 10000) : PalOk (cs ++ [c]) ws :=
  ⟨by rw [List.length_append]; exact n, h.nw, fun x hx => (List.mem_append.mp hx).elim (h.cn x) fun z => by rw [List.mem_singleton.mp z]; exact ok, h.wn⟩
theorem PalOk.addW {cs : List Col} {ws : List Wsh} {r : Wsh} (h : PalOk cs ws) (n : ws.length < 60) (ok : (r.1.length ≤ 9 ∧ ∀ x ∈ r.1.cps.toList, x < 1114112) ∧ (r.2.1.length ≤ 9 ∧ ∀ x ∈ r.2.1.cps.toList, x < 1114112) ∧ ∀ i, r.2.2 = some i → i.natAbs < 10000) : PalOk cs (ws ++ [r]) :=
  ⟨h.nc, by rw [List.length_append]; exact n, h.cn, fun x hx => (List.mem_append.mp hx).elim (h.wn x) fun z => by rw [List.mem_singleton.mp z]; exact ok⟩
theorem log_small {i : Int} (h : i.natAbs < 10000) : i.natAbs.log2 < 1920 := by
  by_cases z : i.natAbs = 0
  · rw [z]; decide
  · have := (Nat.log2_lt z).mpr (show i.natAbs < 2 ^ 14 from Nat.lt_of_lt_of_le h (by decide))
    omega
theorem fineAll_map {α : Type} {f : α → PyData} : ∀ {l : List α}, (∀ x ∈ l, fineAll.fine (f x)) → fineAll (l.map f)
  | [], _ => trivial
  | x :: r, h => ⟨h x List.mem_cons_self, fineAll_map fun y hy => h y (List.mem_cons_of_mem _ hy)⟩
theorem costAll_map {α : Type} {f : α → PyData} {b : Nat} : ∀ {l : List α}, (∀ x ∈ l, costAll.cost (f x) ≤ b) → costAll (l.map f) ≤ l.length * (b + 2)
  | [], _ => Nat.zero_le _
  | x :: r, h => by
    have h1 := h x List.mem_cons_self
    have h2 := costAll_map (l := r) fun y hy => h y (List.mem_cons_of_mem _ hy)
    show costAll.cost (f x) + 2 + costAll (r.map f) ≤ (r.length + 1) * (b + 2)
    rw [Nat.succ_mul]
    omega
theorem depthAll_map {α : Type} {f : α → PyData} {b : Nat} : ∀ {l : List α}, (∀ x ∈ l, (f x).depth ≤ b) → PyData.depthAll (l.map f) ≤ b
  | [], _ => Nat.zero_le _
  | x :: r, h => by
    show max (f x).depth (PyData.depthAll (r.map f)) ≤ b
    exact Nat.max_le.mpr ⟨h x List.mem_cons_self, depthAll_map fun y hy => h y (List.mem_cons_of_mem _ hy)⟩
theorem fine_col {c : Col} (h : c.1.length ≤ 9 ∧ (∀ x ∈ c.1.cps.toList, x < 1114112) ∧ c.2.1.natAbs < 10000 ∧ c.2.2.1.natAbs < 10000 ∧ c.2.2.2.natAbs < 10000) : fineAll.fine (colD c) :=
  ⟨fun x hx => Nat.lt_trans (h.2.1 x hx) (by decide), log_small h.2.2.1, log_small h.2.2.2.1, log_small h.2.2.2.2, trivial⟩
theorem fine_opt {o : Option Int} (h : ∀ i, o = some i → i.natAbs < 10000) : fineAll.fine (optD o) := by
  cases o with
  | none => trivial
  | some i => exact log_small (h i rfl)
theorem pal_fine {cs : List Col} {ws : List Wsh} (h : PalOk cs ws) : fineAll.fine (palD cs ws) :=
  ⟨fineAll_map fun c hc => fine_col (h.cn c hc), fineAll_map fun r hr => ⟨fun x hx => Nat.lt_trans ((h.wn r hr).1.2 x hx) (by decide), fun x hx => Nat.lt_trans ((h.wn r hr).2.1.2 x hx) (by decide), fine_opt (h.wn r hr).2.2, trivial⟩, trivial⟩
theorem cost_opt (o : Option Int) : costAll.cost (optD o) ≤ 1921 := by
  cases o with
  | none => decide
  | some i => exact Nat.le_refl _
theorem pal_cost {cs : List Col} {ws : List Wsh} (h : PalOk cs ws) : costAll.cost (palD cs ws) ≤ 1000000 := by
  have h1 : costAll (cs.map colD) ≤ cs.length * (10000 + 2) := costAll_map fun c hc => by
    have := (h.cn c hc).1
    show (10 * c.1.length + 2) + 2 + (1921 + 2 + (1921 + 2 + (1921 + 2 + 0))) + 3 ≤ 10000
    omega
  have h2 : costAll (ws.map washD) ≤ ws.length * (10000 + 2) := costAll_map fun r hr => by
    have a := (h.wn r hr).1.1
    have b := (h.wn r hr).2.1.1
    have c := cost_opt r.2.2
    show (10 * r.1.length + 2) + 2 + ((10 * r.2.1.length + 2) + 2 + (costAll.cost (optD r.2.2) + 2 + 0)) + 3 ≤ 10000
    omega
  have h3 := Nat.mul_le_mul_right 10002 h.nc
  have h4 := Nat.mul_le_mul_right 10002 h.nw
  show (costAll (cs.map colD) + 3) + 2 + ((costAll (ws.map washD) + 3) + 2 + 0) + 3 ≤ 1000000
  omega
theorem depth_opt (o : Option Int) : (optD o).depth = 0 := by cases o <;> rfl
theorem pal_depth (cs : List Col) (ws : List Wsh) : (palD cs ws).depth ≤ 3 := by
  have h1 : PyData.depthAll (cs.map colD) ≤ 1 := depthAll_map fun c _ => by show 1 ≤ 1; decide
  have h2 : PyData.depthAll (ws.map washD) ≤ 1 := depthAll_map fun r _ => by
    show max 0 (max 0 (max (optD r.2.2).depth 0)) + 1 ≤ 1
    rw [depth_opt]
    decide
  show max (PyData.depthAll (cs.map colD) + 1) (max (PyData.depthAll (ws.map washD) + 1) 0) + 1 ≤ 3
  omega
end Pot

namespace Pot
open PySem PySem.Spec PyProof.Rows L2
/-! ### words of letters -/
/-- at most n letters a to z -/
def Wd (n : Nat) (z : Str) : Prop := z.length ≤ n ∧ ∀ c ∈ z.cps.toList, 97 ≤ c ∧ c ≤ 122
theorem Wd.mono {n m : Nat} {z : Str} (h : Wd n z) (k : n ≤ m) : Wd m z := ⟨Nat.le_trans h.1 k, h.2⟩
theorem wd_add {n m : Nat} {a b : Str} (h : Wd n a) (k : Wd m b) : Wd (n + m) (a ++ b) := by
  refine ⟨by rw [strLen_append]; exact Nat.add_le_add h.1 k.1, fun c hc => ?_⟩
  have e : (a ++ b).cps.toList = a.cps.toList ++ b.cps.toList := by
    show (a.cps ++ b.cps).toList = _
    simp
  rw [e] at hc
  exact (List.mem_append.mp hc).elim (h.2 c) (k.2 c)
def az : List Nat := [97, 98, 99, 100, 101, 102, 103, 104, 105, 106, 107, 108, 109, 110, 111, 112, 113, 114, 115, 116, 117, 118, 119, 120, 121, 122]
theorem az_cps : (Str.ofString "abcdefghijklmnopqrstuvwxyz").cps.toList = az := by decide +kernel
theorem az_at : ∀ k : Nat, k < 26 → atI az ((k : Nat) : Int) = some (97 + k) := by unfold az; decide
theorem az_ix {i : Int} (h0 : 0 ≤ i) (h1 : i < 26) : atI (Str.ofString "abcdefghijklmnopqrstuvwxyz").cps.toList i = some (97 + i.toNat) := by
  rw [az_cps]
  have h := az_at i.toNat (by omega)
  rw [show ((i.toNat : Nat) : Int) = i by omega] at h
  exact h
theorem wd_sign {c : Nat} (h0 : 97 ≤ c) (h1 : c ≤ 122) : Wd 1 ⟨#[c]⟩ := ⟨Nat.le_refl _, fun d hd => by
  have e : d = c := by simpa using hd
  subst e; exact ⟨h0, h1⟩⟩
theorem wd_letter {i : Int} (h0 : 0 ≤ i) (h1 : i < 26) : Wd 1 ⟨#[97 + i.toNat]⟩ := wd_sign (by omega) (by omega)
theorem wd_nil : Wd 0 Str.empty := ⟨Nat.le_refl _, fun c hc => by have : c ∈ ([] : List Nat) := hc; simp at this⟩
theorem wd_join : ∀ {ys : List Str}, (∀ y ∈ ys, Wd 1 y) → Wd ys.length (Str.join Str.empty ys)
  | [], _ => wd_nil
  | [x], h => h x List.mem_cons_self
  | x :: y :: r, h => by
    have ih := wd_join (ys := y :: r) fun z hz => h z (List.mem_cons_of_mem _ hz)
    show Wd _ (x ++ Str.empty ++ Str.join Str.empty (y :: r))
    have h1 := wd_add (wd_add (h x List.mem_cons_self) wd_nil) ih
    exact h1.mono (by simp only [List.length_cons]; omega)
theorem cut_mem {z : Str} {lo hi : Option Int} {c : Nat} (h : c ∈ (cutS z lo hi).cps.toList) : c ∈ z.cps.toList := by
  unfold cutS at h
  have h2 : c ∈ (z.cps.toList.drop (HT.sIx z.length 0 lo)).take (HT.sIx z.length z.length hi - HT.sIx z.length 0 lo) := by simpa using h
  exact List.mem_of_mem_drop (List.mem_of_mem_take h2)
theorem cut_len (z : Str) (lo hi : Option Int) : (cutS z lo hi).length ≤ HT.sIx z.length z.length hi - HT.sIx z.length 0 lo := by
  unfold cutS
  show (List.toArray _).size ≤ _
  rw [List.size_toArray]
  exact List.length_take_le ..
theorem wd_head {n k : Nat} {z : Str} (h : Wd n z) : Wd k (cutS z none (some (k : Int))) := by
  refine ⟨Nat.le_trans (cut_len z none (some (k : Int))) ?_, fun c hc => h.2 c (cut_mem hc)⟩
  rw [HT.sIx_nat]
  omega
theorem wd_tail {n k : Nat} {z : Str} (h : Wd n z) : Wd (z.length - k) (cutS z (some (k : Int)) none) := by
  refine ⟨Nat.le_trans (cut_len z (some (k : Int)) none) ?_, fun c hc => h.2 c (cut_mem hc)⟩
  rw [HT.sIx_nat, HT.sIx_none]
  omega
theorem wd_cut {n : Nat} {z : Str} {lo hi : Option Int} (h : Wd n z) : Wd n (cutS z lo hi) := by
  refine ⟨Nat.le_trans (cut_len z lo hi) ?_, fun c hc => h.2 c (cut_mem hc)⟩
  have := HT.sIx_le z.length z.length (Nat.le_refl _) hi
  have := h.1
  omega
theorem wd_small {n : Nat} {z : Str} (h : Wd n z) (k : n ≤ 1000) : z.length ≤ sizeLine := Nat.le_trans h.1 (Nat.le_trans k (by decide))
theorem wd_codes {n : Nat} {z : Str} (h : Wd n z) : ∀ x ∈ z.cps.toList, x < 1114112 := fun x hx => by have := (h.2 x hx).2; omega
section
variable {K : PySem.W.Frag}
theorem kp_seq {d c l : Addr} {H H' : Hp} {xs : List V} (k : Kp d c H H') (n1 : l ≠ d) (n2 : l ≠ c) (h : SqL K H l xs) : SqL K H' l xs := by
  rcases h with (h | ⟨o, h⟩) | h
  · exact .inl (.inl (k _ _ n1 n2 h))
  · exact .inl (.inr ⟨o, k _ _ n1 n2 h⟩)
  · exact .inr h
end
end Pot

namespace Pot
open PySem PySem.Spec PyProof.Rows L2
/-! ### the drawing state of two objects, told by what stands beside it -/
section
variable {H H' : Hp} {d c : Addr} {n m : Nat} {S : List Addr} {x : Addr} {o : HO}
theorem kp_sm (k : Kp d c H H') : Sm [d, c] H H' := fun x o e => by
  have nm := off_mem e
  rw [off_out nm] at e ⊢
  exact k x o (fun z => nm (by rw [z]; simp)) (fun z => nm (by rw [z]; simp)) e
theorem sm_kp (s : Sm [d, c] H H') : Kp d c H H' := fun x o h1 h2 e => sm_at s (by simp [h1, h2]) e
theorem sm_two (h1 : d ∈ S) (h2 : c ∈ S) (s : Sm [d, c] H H') : Sm S H H' := sm_mono (fun x hx => by
  rcases List.mem_cons.mp hx with e | e
  · rw [e]; exact h1
  · rw [List.mem_singleton.mp e]; exact h2) s
theorem sm2_at (s : Sm [d, c] H H') (h1 : x ≠ d) (h2 : x ≠ c) (h : H x = some o) : H' x = some o := sm_at s (by simp [h1, h2]) h
theorem st_free (s : Sm [d, c] H H') (B : StAt H' d c n) (h : H' x = none) : H x = none := (sm_kp s).free B h
theorem StAt.here (B : StAt H d c n) : H d ≠ none ∧ H c ≠ none := by
  obtain ⟨_, xs, t, h1, h2, _⟩ := B
  constructor
  · intro z; rw [h1] at z; cases z
  · intro z; rw [h2] at z; cases z
theorem Live.st (L : Live S H) (B : StAt H' d c n) (s : Sm [d, c] H H') : Live S H' := fun x hx e => by
  by_cases h1 : x = d
  · rw [h1] at e; exact B.here.1 e
  by_cases h2 : x = c
  · rw [h2] at e; exact B.here.2 e
  cases h : H x with
  | none => exact L x hx h
  | some o => rw [sm2_at s h1 h2 h] at e; cases e
theorem Live.two (B : StAt H d c n) : Live [d, c] H := fun x hx e => by
  rcases List.mem_cons.mp hx with z | z
  · rw [z] at e; exact B.here.1 e
  · rw [List.mem_singleton.mp z] at e; exact B.here.2 e
theorem StAt.nd (B : StAt H d c n) (h : H x = none) : x ≠ d := (B.ne1 h).symm
theorem StAt.nc (B : StAt H d c n) (h : H x = none) : x ≠ c := (B.ne2 h).symm
end
end Pot

namespace Pot
open PySem PySem.Spec PyProof.Rows L2
/-! ### a box of three numbers whose last is at most n -/
def Bq (H : Hp) (b : Addr) (n : Nat) : Prop := ∃ x y z : Int, H b = some (.lst [.int x, .int y, .int z]) ∧ 0 ≤ z ∧ z ≤ n
section
variable {H H' : Hp} {b p : Addr} {n m : Nat} {o : HO}
theorem Bq.bx (B : Bq H b n) : Bx H b := by
  obtain ⟨x, y, z, h, _⟩ := B
  exact ⟨x, y, z, h⟩
theorem Bq.same (B : Bq H b n) (s : Same H H') : Bq H' b n := by
  obtain ⟨x, y, z, h, h2⟩ := B
  exact ⟨x, y, z, s _ _ h, h2⟩
theorem Bq.put (B : Bq H b n) (h : H p = none) : Bq (upd H p o) b n := B.same (same_upd h)
theorem Bq.wr (B : Bq H b n) (h : p ≠ b) : Bq (upd H p o) b n := by
  obtain ⟨x, y, z, e, h2⟩ := B
  exact ⟨x, y, z, by rw [upd_ne h.symm]; exact e, h2⟩
theorem Bq.mono (B : Bq H b n) (h : n ≤ m) : Bq H b m := by
  obtain ⟨x, y, z, e, h1, h2⟩ := B
  exact ⟨x, y, z, e, h1, by omega⟩
theorem Bq.ne (B : Bq H b n) (h : H p = none) : p ≠ b := B.bx.ne h
theorem Live.q (B : Bq H b n) : Live [b] H := Live.one B.bx
end
theorem b01 (k : Bool) : -(2 ^ 64 : Int) < (if k = true then 1 else 0) ∧ (if k = true then 1 else 0) < (2 ^ 64 : Int) := by cases k <;> decide
theorem CDivW.of {i j : Int} (h0 : 0 < j) (h1 : j < 2 ^ 64) : CDivW i j := by
  refine ⟨h0, ?_⟩
  have z : j.natAbs ≠ 0 := by omega
  have := (Nat.log2_lt z).mpr (show j.natAbs < 2 ^ 64 by omega)
  omega
mutual
theorem gd_lay {m : Nat} : ∀ d : PyData, gd m d → d.canLay0 = true
  | .none, _ => rfl
  | .bool _, _ => rfl
  | .int _, _ => rfl
  | .str x, g => by
    show x.cps.all (fun c => decide (c < 0x110000)) = true
    rw [← Array.all_toList, List.all_eq_true]
    exact fun c hc => decide_eq_true (g.2 c hc)
  | .list xs, g => gdAll_lay xs g
  | .tuple xs, g => gdAll_lay xs g
  | .dict _, g => g.elim
theorem gdAll_lay {m : Nat} : ∀ ds : List PyData, gdAll m ds → PyData.canLayAll0 ds = true
  | [], _ => rfl
  | x :: xs, g => by
    show (x.canLay0 && PyData.canLayAll0 xs) = true
    rw [gd_lay x g.1, gdAll_lay xs g.2]; rfl
end
theorem Th.shaped {m C D W : Nat} {d : PyData} (h : Th m C D W d) (hD : D ≤ 64) : SeqAt.shaped d = true := by
  unfold SeqAt.shaped
  rw [gd_lay d h.g, decide_eq_true (Nat.le_trans h.d hD)]; rfl
theorem gd_shaped {m : Nat} {d : PyData} (h : gd m d) (hD : d.depth ≤ 64) : SeqAt.shaped d = true := by
  unfold SeqAt.shaped
  rw [gd_lay d h, decide_eq_true hD]; rfl
end Pot

namespace Pot
open PySem PySem.Spec PyProof.Rows L2
/-- a row that tells of these two -/
def mat (a : Option Str) (b : Str) (r : Wsh) : Bool := decide (some r.1 = a) && decide (r.2.1 = b)
def namD : Option Str → PyData
  | none => .none
  | some z => .str z
theorem washF_filter (a : Option Str) (b : Str) : ∀ ws : List Wsh, washF ws a b = match ws.filter (mat a b) with
    | [] => some 0
    | r :: _ => r.2.2
  | [] => rfl
  | r :: ws => by
    show (if some r.1 = a ∧ r.2.1 = b then r.2.2 else washF ws a b) = _
    rw [List.filter_cons]
    by_cases h : some r.1 = a ∧ r.2.1 = b
    · have e : mat a b r = true := by unfold mat; rw [decide_eq_true h.1, decide_eq_true h.2]; rfl
      rw [if_pos h, if_pos e]
    · have e : ¬ mat a b r = true := by
        unfold mat
        rw [Bool.and_eq_true, decide_eq_true_eq, decide_eq_true_eq]
        exact h
      rw [if_neg h, if_neg e]
      exact washF_filter a b ws
theorem str_beq (x y : Str) : (x == y) = decide (x = y) := by
  by_cases h : x = y
  · subst h; rw [decide_eq_true rfl]; exact beq_self_eq_true x
  · rw [decide_eq_false h]; exact beq_false_of_ne h
theorem eqv_mat (a : Option Str) (b : Str) (r : Wsh) : PyData.eqv (.tuple [.str r.1, .str r.2.1]) (.tuple [namD a, .str b]) = mat a b r := by
  unfold mat
  cases a with
  | none =>
    rw [decide_eq_false (by intro z; cases z)]
    rfl
  | some z =>
    show ((r.1 == z) && ((r.2.1 == b) && true)) = _
    rw [str_beq, str_beq, Bool.and_true]
    congr 1
    by_cases h : r.1 = z
    · rw [decide_eq_true h, decide_eq_true (by rw [h])]
    · rw [decide_eq_false h, decide_eq_false fun q => h (Option.some.inj q)]
section
variable {K : PySem.W.Frag} {H : Hp}
theorem nam_dp : ∀ a : Option Str, Dp K H (namV a) (namD a)
  | none => .non
  | some z => .str z
theorem dpAll_opts : ∀ l : List Wsh, DpAll K H (l.map fun r => optV r.2.2) (l.map fun r => optD r.2.2)
  | [] => .nil
  | r :: l => .cons (opt_dp r.2.2) (dpAll_opts l)
end
/-- signs that there are -/
def Sg (z : Str) : Prop := ∀ x ∈ z.cps.toList, x < 1114112
theorem strOk_len {z : Str} (h : Sg z) : PyData.strOk z = true := by
  unfold PyData.strOk
  rw [Array.all_eq_true_iff_forall_mem]
  intro x hx
  exact decide_eq_true (h x (Array.mem_toList_iff.mpr hx))
theorem shaped_two {x y : Str} (h : Sg x) (k : Sg y) : SeqAt.shaped (.tuple [.str x, .str y]) = true := by
  show (PyData.strOk x && (PyData.strOk y && true)) && decide (max 0 (max 0 0) + 1 ≤ 64) = true
  rw [strOk_len h, strOk_len k]
  rfl
theorem shaped_nam {a : Option Str} {y : Str} (h : ∀ z, a = some z → Sg z) (k : Sg y) : SeqAt.shaped (.tuple [namD a, .str y]) = true := by
  cases a with
  | none =>
    show (true && (PyData.strOk y && true)) && decide (max 0 (max 0 0) + 1 ≤ 64) = true
    rw [strOk_len k]
    rfl
  | some z => exact shaped_two (h z rfl) k
theorem shaped_opts (l : List Wsh) : SeqAt.shaped (.list (l.map fun r => optD r.2.2)) = true := by
  have h1 : ∀ l : List Wsh, PyData.canLayAll0 (l.map fun r => optD r.2.2) = true := by
    intro l
    induction l with
    | nil => rfl
    | cons r l ih =>
      show (PyData.canLay0 (optD r.2.2) && PyData.canLayAll0 (l.map fun r => optD r.2.2)) = true
      rw [ih]
      cases r.2.2 <;> rfl
  have h2 : PyData.depthAll (l.map fun r => optD r.2.2) ≤ 0 := depthAll_map fun r _ => by rw [depth_opt]; exact Nat.le_refl _
  show (PyData.canLayAll0 (l.map fun r => optD r.2.2) && decide (PyData.depthAll (l.map fun r => optD r.2.2) + 1 ≤ 64)) = true
  rw [h1, decide_eq_true (by omega)]
  rfl
end Pot

namespace Pot
open PySem PySem.Spec PyProof.Rows L2
section
variable {X : Cx} {K : PySem.W.Frag}
/-- len of a set of ints -/
def rLenSet (w : World) : List V → Hp → VK → Prop := fun xs H Q => ∃ (a : Addr) (S : Int → Bool) (n : Nat), xs = [V.ref a] ∧ H a = some (SetO w a S n) ∧ Q (.int n) H
theorem cr_lenSet : CallR X (.builtin "len") (rLenSet X.w) := by
  intro pins s σ H vs us Q I r h
  obtain ⟨a, S, n, rfl, ha, q⟩ := h
  rw [Vals.ref1 r]
  obtain ⟨o, es, ep, t, ho, hex, hd, _, _, _, hb, hf, rfl, _⟩ := setO_get I ha
  exact PySem.call_len_set ho hex hd hf (by unfold scanBound at hb; omega) ⟨.int _, H, I.tok _, ⟨_, rfl⟩, q⟩
theorem kc_lenSet {w : World} (hw : X.w = w := by rfl) : CallR X (.builtin "len") (rLenSet w) := by subst hw; exact cr_lenSet
/-- repr of any data -/
def rReprA (K : PySem.W.Frag) : List V → Hp → VK → Prop := fun xs H Q => ∃ (x : V) (d : PyData), xs = [x] ∧ Dp K H x d ∧ fineAll.fine d ∧ d.depth ≤ 60 ∧ costAll.cost d ≤ 16777216 ∧ Q (.str d.shown) H
theorem cr_reprA (gd : X.A.guards = some []) (hu : X.A.units + 64 < cLine) : CallR X (.builtin "repr") (rReprA X.K) := by
  intro pins s σ H vs us Q I r h
  obtain ⟨x, d, rfl, dp, sh, dep, sz, q⟩ := h
  obtain ⟨u, rfl, rx⟩ := vals1 r
  have sz2 := Nat.le_trans (shown_len d sh) (by rw [sizeLine_eq]; exact sz : costAll.cost d ≤ sizeLine)
  cases x with
  | ref a =>
    cases rx
    obtain ⟨as, rd⟩ := Dp.reads I d (.ref a) (.ref a) dp rfl
    refine repr_of_reads' rd (fine_show d sh) (fun z => ?_) gd (by omega) (fun _ _ e => e) (fun h' u tk k => ⟨.str d.shown, H, I.kept k, ⟨u, rfl⟩, q⟩) sz2
    rw [dp_noDict dp] at z
    cases z
  | int i =>
    cases dp
    obtain ⟨t, rfl⟩ := rx
    exact PySem.P.repr_of_int sh ⟨.str _, H, I.tok _, ⟨_, rfl⟩, q⟩
  | str z =>
    cases dp
    obtain ⟨t, rfl⟩ := rx
    exact PySem.P.repr_of_str ⟨.str _, H, I.tok _, ⟨_, rfl⟩, q⟩ sz2
  | bl b =>
    cases dp
    cases rx
    refine PySem.P.repr_of_bool ⟨.str _, H, I.tok _, ⟨_, rfl⟩, ?_⟩
    exact q
  | non =>
    cases dp
    cases rx
    exact PySem.P.repr_of_none ⟨.str _, H, I.tok _, ⟨_, rfl⟩, q⟩
  | _ => cases dp
theorem kc_reprA (gd : X.A.guards = some []) (hu : X.A.units + 64 < cLine) (h : X.K = K := by rfl) : CallR X (.builtin "repr") (rReprA K) := h ▸ cr_reprA gd hu
end
theorem short_of {α : Type} [DecidableEq α] : ∀ {ns : List α}, ¬ ns.Nodup → ∃ ns' : List α, ns'.length < ns.length ∧ ∀ k ∈ ns, k ∈ ns'
  | [], h => (h List.nodup_nil).elim
  | x :: ns, h => by
    by_cases hx : x ∈ ns
    · exact ⟨ns, by simp, fun k hk => by
        rcases List.mem_cons.mp hk with e | e
        · rw [e]; exact hx
        · exact e⟩
    · obtain ⟨ns', l, s⟩ := short_of (ns := ns) fun hn => h (List.nodup_cons.mpr ⟨hx, hn⟩)
      exact ⟨x :: ns', by simp only [List.length_cons]; omega, fun k hk => by
        rcases List.mem_cons.mp hk with e | e
        · rw [e]; exact List.mem_cons_self
        · exact List.mem_cons_of_mem _ (s k e)⟩
theorem set_count {ks ns : List Int} (hk : ks.Nodup) (h : ∀ k, k ∈ ks ↔ k ∈ ns) : ks.length ≤ ns.length ∧ (ks.length = ns.length ↔ ns.Nodup) := by
  have le := nodup_le hk fun k x => (h k).mp x
  refine ⟨le, fun e => ?_, fun hn => Nat.le_antisymm le (nodup_le hn fun k x => (h k).mpr x)⟩
  by_cases hn : ns.Nodup
  · exact hn
  · obtain ⟨ns', l, s⟩ := short_of hn
    have := nodup_le hk fun k x => s k ((h k).mp x)
    omega
end Pot

namespace Pot
open PySem PySem.Spec PyProof.Rows L2
section
variable {X : Cx} {K : PySem.W.Frag}
theorem ko_inD (hu : X.A.units + 65 < cLine) (h : X.K = K := by rfl) : OpR X (compareOp .In) (rInD K) := h ▸ op_inD hu
theorem ko_notInD (hu : X.A.units + 65 < cLine) (h : X.K = K := by rfl) : OpR X (compareOp .NotIn) (rNotInD K) := h ▸ op_notInD hu
/-- a text thrice -/
def rRep3 : R2 := fun x y H Q => ∃ z : Str, x = .str z ∧ y = .int 3 ∧ z.length ≤ 100000 ∧ ∀ z' : Str, z'.length ≤ 3 * z.length → (∀ c ∈ z'.cps.toList, c ∈ z.cps.toList) → Q (.str z') H
theorem mul3_len (z : Str) : (Txt.mul z 3).length ≤ 3 * z.length ∧ ∀ c ∈ (Txt.mul z 3).cps.toList, c ∈ z.cps.toList := by
  unfold Txt.mul
  rw [if_neg (show ¬ (3 : Int) < 1 by decide)]
  split
  · exact ⟨by omega, fun c h => h⟩
  · constructor
    · show Array.size _ ≤ _
      simp [List.replicate]
      show z.cps.size + (z.cps.size + z.cps.size) ≤ 3 * z.cps.size
      omega
    · intro c h
      simp [List.replicate] at h
      simpa using h
theorem op_rep3 : OpR X (binaryOp .Mult) rRep3 := by
  intro pins sh sg H xv yv v1 u1 Q I r1 r2 h
  obtain ⟨z, rfl, rfl, hz, q⟩ := h
  obtain ⟨tk1, rfl⟩ := r1
  obtain ⟨tk2, rfl⟩ := r2
  have m3 := mul3_len z
  refine SB.mul ⟨by decide, fun _ _ hh => ?_, fun _ _ => ?_⟩ (fun tt kk => ⟨.str (Txt.mul z 3), H, I.tok _, ⟨_, rfl⟩, q _ m3.1 m3.2⟩)
  · have : ((2 : Int) ^ 63 - 1) / 3 = 3074457345618258602 := by decide
    omega
  · have e : (3 : Int).toNat = 3 := rfl
    rw [e]
    show decide _ = false
    refine decide_eq_false ?_
    have := sizeLine_eq
    omega
end
end Pot

namespace Pot
open PySem PySem.Spec PyProof.Rows L2
open Sem (wp)
/-! ### enumerate of a list or a tuple -/
set_option maxHeartbeats 1000000 in
theorem en_new {v : Value} {ob : Obj} {Ok : Heap → Prop} (B : Begins v ob Ok) :
    Meets (Builtin.«enumerate.__new__» ⟨[.type "enumerate", v], []⟩) (fun _ R s => Ok s.heap ∧ R (.ok (.ret (.ref (s.heap.push ob).objs.size))) { s with heap := (s.heap.push ob).push { cls := .type "enumerate", data := .fields #[.none, .bool false, .ref s.heap.objs.size, rawInt 0, .none, .none] } }) :=
  .of_wp fun prog w A R st hst => by
    obtain ⟨hp, gl, dd, tt, oo⟩ := st; obtain ⟨ok1, fin⟩ := hst; have isub := sub_enumerate
    have go : ∀ {A1 : Around} {E1 : Value → Shared → Prop} {Q1 : Value → Shared → Prop}, Q1 (.ref hp.objs.size) ⟨hp.push ob, gl, dd, tt, oo⟩ → wpAny (model prog w) A1 (pyIter v) Q1 E1 ⟨hp, gl, dd, tt, oo⟩ := fun z => B.iter prog w _ _ ⟨hp, gl, dd, tt, oo⟩ _ ok1 z
    wp_walk using go
    refine wpAny_stack_any fun stk => wpAny_pure ?_
    split
    · rename_i cc _ _ _ _ _; cases (cc == Value.type "enumerate") <;> (wp_walk using go; exact ⟨_, rfl, fin⟩)
    · wp_walk using go; exact ⟨_, rfl, fin⟩
/-- some untracked cells written, nothing new -/
theorem inv_ch {X : Cx} {pins : List (Addr × Obj)} {σ : L2.St} {H : Hp} {s : Shared} {h2 : Heap} {tk : Nat} {ch : List Addr} (I : Inv X pins σ H s) (kp : ∀ b o, b ∉ ch → s.heap.get? b = some o → h2.get? b = some o) (fo : ∀ b ∈ ch, FpOk X pins H b) :
    Inv X pins σ H { s with heap := h2, toks := tk } := by
  have out : ∀ c u, H c = some u → c ∉ ch := fun c u e z => by have := (fo c z).1; rw [this] at e; cases e
  refine I.step (g' := s.gens) (d' := s.drawn) (ch := ch) (fun c hc => let ⟨_, a2, _, a4, a5, a6⟩ := fo c hc; ⟨a4, a2, a5, a6⟩) (fun c o _ _ n e _ => kp c o n e) (fun c o _ _ n e _ => ⟨o.slots, kp c o n e⟩) (fun _ _ _ _ z => z) (fun c o n e => ⟨o, kp c o n e⟩) (fun _ _ z => z) (fun _ _ _ z => z) (fun c ps e => ⟨#[], by rw [e]; simp⟩) (fun mm hm => ?_) (fun c u e => ?_) I.bare
  · obtain ⟨o, e1, e2, ho, rest⟩ := hm; exact ⟨o, e1, e2, kp _ o (fun z => (fo _ z).2.1 rfl) ho, rest⟩
  · refine (I.hok c u e).stay (fun c2 v hc q => kp c2 v ?_ q) (fun _ z => z) fun _ _ z => z
    rcases hc with z | z
    · rw [z]; exact out c u e
    · exact out c2 _ z
def ItT (K : PySem.W.Frag) (a : Addr) : It :=
  ⟨fun i H => ∃ (xs : List V) (x : V), SqT K H a xs ∧ xs[i]? = some x, fun i H v H' => ∃ T x, v = .ref T ∧ H T = none ∧ H' = upd H T (.tup [.int (i : Nat), x]) ∧ ∀ xs, SqT K H a xs → xs[i]? = some x, fun i H => ∃ xs : List V, SqT K H a xs ∧ xs.length ≤ i⟩
/-- an iterator of a tuple that has come to its end -/
theorem drawsEnd {prog : Program} {w : World} {A : Around} (hh : A.handled = none) (it t : Addr) (items : Array Value) (i : Nat) (hi : items[i]? = none) :
    Draws prog w A it [it, t] i (fun _ _ => False) (fun j h => j = i ∧ h.IsTupleIter it t j ∧ h.IsTuple t items) where
  live := fun _ _ st => let ⟨o, ho, _⟩ := st.2.1; ⟨o, ho⟩
  frame := fun _ _ _ st hk => ⟨st.1, st.2.1.at fun o e => hk it (by simp) o e, st.2.2.at fun o e => hk t (by simp) o e⟩
  item := fun j _ _ _ hj st _ => absurd st.1 (Nat.ne_of_lt hj)
  done := fun s Q E st hE => wpAny_nextOf_tuple_end hh st.2.1 st.2.2 hi hE
theorem turn_enT {P : Program} {w : World} {K : PySem.W.Frag} {elts : List Expr} {kk : Nat} {tpos : Pos} (a e it : Addr) (ne1 : e ≠ it) :
    Turn P w K (.Tuple elts kk tpos) (ItT K a) [e, it] e (fun i h => (∃ old, IsEnum h e it (0 + ((i : Nat) : Int)) old) ∧ h.IsTupleIter it a i) where
  mem := by simp
  obj := fun i h st b hb => by
    obtain ⟨⟨old, he⟩, ⟨o, ho, hc, hd⟩⟩ := st
    rcases List.mem_cons.mp hb with z | z
    · rw [z]; exact ⟨_, he, fun v q => nomatch q⟩
    · rw [List.mem_singleton.mp z]; exact ⟨o, ho, fun v q => by rw [hd] at q; cases q⟩
  keep := fun i h h' st k => let ⟨⟨old, he⟩, hi⟩ := st; ⟨⟨old, k e (by simp) _ he⟩, hi.at fun o q => k it (by simp) o q⟩
  item := by
    intro X q1 q2 q3 hc i pins s σ H E I hf st hg; subst q1 q2 q3
    obtain ⟨⟨old, he⟩, hit⟩ := st
    obtain ⟨xs, x, hq, hx⟩ := hg
    obtain ⟨its, vals_, p, _⟩ := I.tuple hq
    obtain ⟨u, hu, ru⟩ := vals_.get hx
    have at_ : its.toArray[i]? = some u := by simpa using hu
    have hlt : i < its.toArray.size := (Array.getElem?_eq_some_iff.mp at_).1
    have nt : ∀ b ∈ [e, it], a ≠ b := fun b hb z => by
      obtain ⟨o, ho, cl, _⟩ := p
      rcases List.mem_cons.mp hb with y | y
      · rw [z, y] at ho
        rw [show s.heap.get? e = _ from he] at ho; cases ho; injection cl with cl; exact absurd cl (by decide)
      · rw [z, List.mem_singleton.mp y] at ho
        obtain ⟨o2, ho2, cl2, _⟩ := hit
        rw [ho2] at ho; cases ho
        rw [cl2] at cl; injection cl with cl; exact absurd cl (by decide)
    have G := GoesN.enumFrom (elts := elts) (x1 := kk) (pos := tpos) 0 (Draws.tuple (prog := X.prog) (w := X.w) (A := X.A.in1) (I.ok.hd hc) it a (nt it (by simp)) its.toArray) e ne1 (by simp [ne1, (nt e (by simp)).symm]) (by simp)
    refine G.goes i s _ _ hlt ⟨⟨old, he⟩, hit, p⟩ fun v h2 tk hY st2 hk _ => ?_
    obtain ⟨T, t, u2, rfl, hn, hu2, hT⟩ := hY
    have eu : u2 = u := Option.some.inj (hu2.symm.trans at_)
    subst eu
    rw [Int.zero_add] at hT
    have new : ObjOk X.prog X.w (upd H T (.tup [.int (i : Nat), x])) h2 T (.tup [.int (i : Nat), x]) := ⟨by show 2 ≤ sizeLine; decide, [.int i t, u2], .cons ⟨_, rfl⟩ (.cons ru .nil), hT⟩
    have I1 : Inv X pins σ (upd H T (.tup [.int (i : Nat), x])) { s with heap := h2, toks := tk } := I.turnedNew (ch := [e, it]) (fun b ob hb q => hk b ob hb q) hf hn new
    refine ⟨.ref T, _, I1, rfl, ⟨T, x, rfl, I.hok.fresh hn, rfl, fun ys hy => by rw [I.tuple_inj hy hq]; exact hx⟩, ⟨st2.1, st2.2.1⟩, fun b hb => ?_⟩
    have hb0 := (hf b hb).1
    have hbT : b ≠ T := by
      rcases List.mem_cons.mp hb with y | y
      · rw [y]; exact Nat.ne_of_lt (Nat.lt_of_lt_of_le (Heap.lt_size he) hn)
      · rw [List.mem_singleton.mp y]
        obtain ⟨o2, ho2, _⟩ := hit
        exact Nat.ne_of_lt (Nat.lt_of_lt_of_le (Heap.lt_size ho2) hn)
    rw [upd_ne hbT]; exact hb0
  done := by
    intro X q1 q2 q3 hc i pins s σ H E I hf st hg; subst q1 q2 q3
    obtain ⟨⟨old, he⟩, hit⟩ := st
    obtain ⟨xs, hq, hx⟩ := hg
    obtain ⟨its, vals_, p, _⟩ := I.tuple hq
    have hl := vals_.length
    have nt : ∀ b ∈ [e, it], a ≠ b := fun b hb z => by
      obtain ⟨o, ho, cl, _⟩ := p
      rcases List.mem_cons.mp hb with y | y
      · rw [z, y] at ho
        rw [show s.heap.get? e = _ from he] at ho; cases ho; injection cl with cl; exact absurd cl (by decide)
      · rw [z, List.mem_singleton.mp y] at ho
        obtain ⟨o2, ho2, cl2, _⟩ := hit
        rw [ho2] at ho; cases ho
        rw [cl2] at cl; injection cl with cl; exact absurd cl (by decide)
    have G := GoesN.enumFrom (elts := elts) (x1 := kk) (pos := tpos) 0 (drawsEnd (prog := X.prog) (w := X.w) (A := X.A.in1) (I.ok.hd hc) it a its.toArray i (by simp; omega)) e ne1 (by simp [ne1, (nt e (by simp)).symm]) (by simp)
    exact G.stops s _ _ ⟨⟨old, he⟩, rfl, hit, p⟩ fun h2 tk hk _ => inv_ch I hk hf
  self := fun _ _ _ _ _ st fin => let ⟨⟨_, he⟩, _⟩ := st; wpAny_pyIter_enum he fin
/-- enumerate(v), v a list or a tuple -/
def iEnA (K : PySem.W.Frag) (ta : TA) : TI := fun σ H R => ta σ H fun vs H1 => ∃ a xs, vs = [.ref a] ∧ ((SqL K H1 a xs ∧ R (Ite K a) H1) ∨ (SqT K H1 a xs ∧ R (ItT K a) H1))
theorem pi_enA {X : Cx} {e : Expr} {ta : TA} {p pos tpos : Pos} {elts : List Expr} {kk : Nat} (hg : Gl X "enumerate") (hm : X.mg "enumerate" = none) (ha : PA X [e] ta) (hs : starEach [e] X.env = [(false, eval e X.env)] := by rfl) :
    PI X (.Tuple elts kk tpos) (.Call (.Name "enumerate" p) [e] [] pos) (iEnA X.K ta) := by
  refine ⟨fun pins s σ H R I hi => ?_⟩
  refine Call_ (ld_blt I hg hm boot_enumerate (PyProof.Rows.callWith_type1 (thn (ha.run pos pins s σ H _ I hi) fun us s1 ⟨vs, H1, I1, r1, q1⟩ => ?_) hs rfl))
  obtain ⟨a, xs, ex, q⟩ := q1
  subst ex
  cases r1 with
  | cons r rr =>
    cases rr; cases r
    rcases q with ⟨hq, q⟩ | ⟨hq, q⟩
    · obtain ⟨its, rv, p2, hz⟩ := I1.list hq
      refine call_enumerate_list p2.isList fun h2 he hit hsz hk => wpAny_pyIter_enum he ?_
      refine ⟨s1.heap.objs.size + 1, [s1.heap.objs.size + 1, s1.heap.objs.size], _, _, H1, rfl, I1.kept (t' := s1.toks) hk, turn_enum a (s1.heap.objs.size + 1) s1.heap.objs.size, ⟨⟨.none, he⟩, hit, Nat.succ_ne_self _⟩, fun b hb => ?_, q⟩
      have hge : s1.heap.objs.size ≤ b := by
        rcases List.mem_cons.mp hb with z | z
        · rw [z]; exact Nat.le_add_right _ _
        · rw [List.mem_singleton.mp z]; exact Nat.le_refl _
      exact I1.fpOk hge (I1.hok.fresh hge)
    · obtain ⟨its, rv, p2, hz⟩ := I1.tuple hq
      refine callType_new F.called_enumerate (by decide) (F.typeCall_enumerate_1 _) (F.newCall_enumerate_1 _) (fun obj => F.args_object_init_2 obj _) F.entry_enumerate_new (en_new (begins_tuple a its.toArray)) ⟨p2, ?_⟩
      have sz : (s1.heap.push { cls := .type "tuple_iterator", data := .fields #[.ref a, .int 0 0] }).objs.size = s1.heap.objs.size + 1 := Heap.size_push ..
      show _ ∧ _
      rw [sz]
      have he : IsEnum ((s1.heap.push { cls := .type "tuple_iterator", data := .fields #[.ref a, .int 0 0] }).push { cls := .type "enumerate", data := .fields #[.none, .bool false, .ref s1.heap.objs.size, rawInt 0, .none, .none] }) (s1.heap.objs.size + 1) s1.heap.objs.size (0 + ((0 : Nat) : Int)) .none := by
        have g := Heap.get?_push_size (s1.heap.push { cls := .type "tuple_iterator", data := .fields #[.ref a, .int 0 0] }) (o := { cls := .type "enumerate", data := .fields #[.none, .bool false, .ref s1.heap.objs.size, rawInt 0, .none, .none] }) rfl
        rw [sz] at g; exact g
      refine ⟨⟨_, he, rfl⟩, wpAny_pyIter_enum he ⟨s1.heap.objs.size + 1, [s1.heap.objs.size + 1, s1.heap.objs.size], _, _, H1, rfl, I1.kept (t' := s1.toks) (fun b o z => Heap.get?_push_of_some _ (Heap.get?_push_of_some _ z)), turn_enT a (s1.heap.objs.size + 1) s1.heap.objs.size (Nat.succ_ne_self _), ⟨⟨.none, he⟩, ⟨_, Heap.get?_push_of_some _ (Heap.get?_push_size _ rfl), rfl, rfl⟩⟩, fun b hb => ?_, q⟩⟩
      have hge : s1.heap.objs.size ≤ b := by
        rcases List.mem_cons.mp hb with z | z
        · rw [z]; exact Nat.le_add_right _ _
        · rw [List.mem_singleton.mp z]; exact Nat.le_refl _
      exact I1.fpOk hge (I1.hok.fresh hge)
theorem walk_enT {K : PySem.W.Frag} {a : Addr} {xs : List V} : Walk (ItT K a) xs.length (fun H => SqT K H a xs) (YPair (fun i => some (.int (i : Nat))) (fun i => xs[i]?)) := by
  refine ⟨fun i _ hi hs => ⟨xs, xs[i], hs, by simp [hi]⟩, fun _ hs => ⟨xs, hs, Nat.le_refl _⟩, fun i H v H2 _ hs y => ?_⟩
  obtain ⟨T, x, e1, e2, e3, e4⟩ := y
  exact ⟨T, .int (i : Nat), x, e1, e2, e3, rfl, e4 xs hs⟩
theorem ko_catA {X : Cx} {K : PySem.W.Frag} (h : X.K = K := by rfl) : OpR X (binaryOp .Add) (rCatA K) := h ▸ op_catA
theorem ki_enA {X : Cx} {K : PySem.W.Frag} {e : Expr} {ta : TA} {p pos tpos : Pos} {elts : List Expr} {kk : Nat} (hg : Gl X "enumerate") (hm : X.mg "enumerate" = none) (ha : PA X [e] ta) (hs : starEach [e] X.env = [(false, eval e X.env)] := by rfl) (h : X.K = K := by rfl)
    : PI X (.Tuple elts kk tpos) (.Call (.Name "enumerate" p) [e] [] pos) (iEnA K ta) := h ▸ pi_enA hg hm ha hs
end Pot

namespace Pot
open PySem PySem.Spec PyProof.Rows L2
open Sem (wp)
/-! ### zip of three lists of one length -/
def It3 (K : PySem.W.Frag) (a b c : Addr) : It :=
  ⟨fun i H => ∃ (xs ys zs : List V) (x y z : V), SqL K H a xs ∧ SqL K H b ys ∧ SqL K H c zs ∧ xs[i]? = some x ∧ ys[i]? = some y ∧ zs[i]? = some z,
   fun i H v H2 => ∃ T x y z, v = .ref T ∧ H T = none ∧ H2 = upd H T (.tup [x, y, z]) ∧ (∀ xs, SqL K H a xs → xs[i]? = some x) ∧ (∀ ys, SqL K H b ys → ys[i]? = some y) ∧ ∀ zs, SqL K H c zs → zs[i]? = some z,
   fun i H => ∃ xs ys zs : List V, SqL K H a xs ∧ SqL K H b ys ∧ SqL K H c zs ∧ xs.length ≤ i ∧ ys.length ≤ i ∧ zs.length ≤ i⟩
/-- an iterator of a list that has come to its end -/
theorem drawsEndL {prog : Program} {w : World} {A : Around} (hh : A.handled = none) (it t : Addr) (items : Array Value) (i : Nat) (hi : items[i]? = none) :
    Draws prog w A it [it, t] i (fun _ _ => False) (fun j h => j = i ∧ h.IsListIter it t j ∧ h.IsList t items) where
  live := fun _ _ st => let ⟨o, ho, _⟩ := st.2.1; ⟨o, ho⟩
  frame := fun _ _ _ st hk => ⟨st.1, st.2.1.at fun o e => hk it (by simp) o e, st.2.2.at fun o e => hk t (by simp) o e⟩
  item := fun j _ _ _ hj st _ => absurd st.1 (Nat.ne_of_lt hj)
  done := fun s Q E st hE => wpAny_nextOf_list_end hh st.2.1 st.2.2 hi hE
theorem turn_z3 {P : Program} {w : World} {K : PySem.W.Frag} {elts : List Expr} {kk : Nat} {tpos : Pos} {a b c z TI TO i1 i2 i3 : Addr} (D : ZipSep3 z TI TO i1 i2 i3 [i1, a] [i2, b] [i3, c]) (n1 : a ≠ i1) (n2 : b ≠ i2) (n3 : c ≠ i3) :
    Turn P w K (.Tuple elts kk tpos) (It3 K a b c) [z, TI, TO, i1, i2, i3] z (fun i h => IsZip h z TI TO .none ∧ IsTupOf3 h TI (.ref i1) (.ref i2) (.ref i3) ∧ (∃ x y u, IsTupOf3 h TO x y u) ∧ h.IsListIter i1 a i ∧ h.IsListIter i2 b i ∧ h.IsListIter i3 c i) where
  mem := by simp
  obj := fun i h st m hm => by
    obtain ⟨hz, hTI, ⟨x, y, u, hTO⟩, ⟨o1, e1, _, d1⟩, ⟨o2, e2, _, d2⟩, ⟨o3, e3, _, d3⟩⟩ := st
    simp only [List.mem_cons, List.not_mem_nil, or_false] at hm
    rcases hm with e | e | e | e | e | e
    · subst e; exact ⟨_, hz, fun v q => nomatch q⟩
    · subst e; exact ⟨_, hTI, fun v q => nomatch q⟩
    · subst e; exact ⟨_, hTO, fun v q => nomatch q⟩
    · subst e; exact ⟨o1, e1, fun v q => by rw [d1] at q; cases q⟩
    · subst e; exact ⟨o2, e2, fun v q => by rw [d2] at q; cases q⟩
    · subst e; exact ⟨o3, e3, fun v q => by rw [d3] at q; cases q⟩
  keep := fun i h h2 st k => by
    obtain ⟨hz, hTI, ⟨x, y, u, hTO⟩, g1, g2, g3⟩ := st
    exact ⟨k z (by simp) _ hz, k TI (by simp) _ hTI, ⟨x, y, u, k TO (by simp) _ hTO⟩, g1.at fun o q => k i1 (by simp) o q, g2.at fun o q => k i2 (by simp) o q, g3.at fun o q => k i3 (by simp) o q⟩
  item := by
    intro X q1 q2 q3 hc i pins s σ H E I hf st hg; subst q1 q2 q3
    obtain ⟨hz, hTI, ⟨x0, y0, u0, hTO⟩, g1, g2, g3⟩ := st
    obtain ⟨xs, ys, us, x, y, u, hqa, hqb, hqc, hx, hy, hu⟩ := hg
    obtain ⟨its1, vs1, p1, _⟩ := I.list hqa
    obtain ⟨its2, vs2, p2, _⟩ := I.list hqb
    obtain ⟨its3, vs3, p3, _⟩ := I.list hqc
    obtain ⟨w1, hw1, r1⟩ := vs1.get hx
    obtain ⟨w2, hw2, r2⟩ := vs2.get hy
    obtain ⟨w3, hw3, r3⟩ := vs3.get hu
    have at1 : its1.toArray[i]? = some w1 := by simpa using hw1
    have at2 : its2.toArray[i]? = some w2 := by simpa using hw2
    have at3 : its3.toArray[i]? = some w3 := by simpa using hw3
    have l1 : i < its1.toArray.size := (Array.getElem?_eq_some_iff.mp at1).1
    have l2 : i < its2.toArray.size := (Array.getElem?_eq_some_iff.mp at2).1
    have l3 : i < its3.toArray.size := (Array.getElem?_eq_some_iff.mp at3).1
    have hh := I.ok.hd hc
    have G := GoesN.zip3 (elts := elts) (x1 := kk) (pos := tpos) D (Draws.list (prog := X.prog) (w := X.w) (A := X.A.in1) hh i1 a n1 its1.toArray) (Draws.list (prog := X.prog) (w := X.w) (A := X.A.in1) hh i2 b n2 its2.toArray) (Draws.list (prog := X.prog) (w := X.w) (A := X.A.in1) hh i3 c n3 its3.toArray)
    refine G.goes i s _ _ (by omega) ⟨hz, hTI, ⟨x0, y0, u0, hTO⟩, ⟨g1, p1.isList⟩, ⟨g2, p2.isList⟩, ⟨g3, p3.isList⟩⟩ fun v h2 tk hY st2 hk _ => ?_
    obtain ⟨T, t1, t2, t3, rfl, hn, e1, e2, e3, hT⟩ := hY
    cases Option.some.inj (e1.symm.trans at1)
    cases Option.some.inj (e2.symm.trans at2)
    cases Option.some.inj (e3.symm.trans at3)
    have new : ObjOk X.prog X.w (upd H T (.tup [x, y, u])) h2 T (.tup [x, y, u]) := ⟨by show 3 ≤ sizeLine; decide, [w1, w2, w3], .cons r1 (.cons r2 (.cons r3 .nil)), hT⟩
    have I1 : Inv X pins σ (upd H T (.tup [x, y, u])) { s with heap := h2, toks := tk } := I.turnedNew (ch := [z, TI, TO, i1, i2, i3]) (fun m ob hm q => hk m ob (fun e => hm (by simp only [List.mem_cons, List.not_mem_nil, or_false] at e ⊢; rcases e with e | e | e | e | e <;> simp [e])) q) hf hn new
    refine ⟨.ref T, _, I1, rfl, ⟨T, x, y, u, rfl, I.hok.fresh hn, rfl, fun l hl => by rw [I.list_inj hl hqa]; exact hx, fun l hl => by rw [I.list_inj hl hqb]; exact hy, fun l hl => by rw [I.list_inj hl hqc]; exact hu⟩, ⟨st2.1, st2.2.1, st2.2.2.1, st2.2.2.2.1.1, st2.2.2.2.2.1.1, st2.2.2.2.2.2.1⟩, fun m hm => ?_⟩
    have hm0 := (hf m hm).1
    have live : ∃ o, s.heap.get? m = some o := by
      obtain ⟨o1, f1, _⟩ := g1
      obtain ⟨o2, f2, _⟩ := g2
      obtain ⟨o3, f3, _⟩ := g3
      simp only [List.mem_cons, List.not_mem_nil, or_false] at hm
      rcases hm with e | e | e | e | e | e
      · subst e; exact ⟨_, hz⟩
      · subst e; exact ⟨_, hTI⟩
      · subst e; exact ⟨_, hTO⟩
      · subst e; exact ⟨_, f1⟩
      · subst e; exact ⟨_, f2⟩
      · subst e; exact ⟨_, f3⟩
    obtain ⟨o, ho⟩ := live
    rw [upd_ne (Nat.ne_of_lt (Nat.lt_of_lt_of_le (Heap.lt_size ho) hn))]; exact hm0
  done := by
    intro X q1 q2 q3 hc i pins s σ H E I hf st hg; subst q1 q2 q3
    obtain ⟨hz, hTI, ⟨x0, y0, u0, hTO⟩, g1, g2, g3⟩ := st
    obtain ⟨xs, ys, us, hqa, hqb, hqc, hx, hy, hu⟩ := hg
    obtain ⟨its1, vs1, p1, _⟩ := I.list hqa
    obtain ⟨its2, vs2, p2, _⟩ := I.list hqb
    obtain ⟨its3, vs3, p3, _⟩ := I.list hqc
    have m1 := vs1.length
    have m2 := vs2.length
    have m3 := vs3.length
    have hh := I.ok.hd hc
    have G := GoesN.zip3 (elts := elts) (x1 := kk) (pos := tpos) D (drawsEndL (prog := X.prog) (w := X.w) (A := X.A.in1) hh i1 a its1.toArray i (by simp; omega)) (drawsEndL (prog := X.prog) (w := X.w) (A := X.A.in1) hh i2 b its2.toArray i (by simp; omega)) (drawsEndL (prog := X.prog) (w := X.w) (A := X.A.in1) hh i3 c its3.toArray i (by simp; omega))
    rw [Nat.min_self, Nat.min_self] at G
    exact G.stops s _ _ ⟨hz, hTI, ⟨x0, y0, u0, hTO⟩, ⟨rfl, g1, p1.isList⟩, ⟨rfl, g2, p2.isList⟩, ⟨rfl, g3, p3.isList⟩⟩ fun h2 tk hk _ => inv_ch (ch := [z, TI, TO, i1, i2, i3]) I (fun m o hm q => hk m o (fun e => hm (by simp only [List.mem_cons, List.not_mem_nil, or_false] at e ⊢; rcases e with e | e | e | e | e <;> simp [e])) q) hf
  self := fun _ _ _ _ _ st fin => wpAny_pyIter_zip st.1 fin
def iZip3 (K : PySem.W.Frag) (ta : TA) : TI := fun σ H R => ta σ H fun vs H1 => ∃ a b c xs ys zs, vs = [.ref a, .ref b, .ref c] ∧ SqL K H1 a xs ∧ SqL K H1 b ys ∧ SqL K H1 c zs ∧ R (It3 K a b c) H1
theorem pi_zip3 {X : Cx} {e e2 e3 : Expr} {ta : TA} {p pos tpos : Pos} {elts : List Expr} {kk : Nat} (hg : Gl X "zip") (hm : X.mg "zip" = none) (ha : PA X [e, e2, e3] ta)
    (hs : starEach [e, e2, e3] X.env = (false, eval e X.env) :: starEach [e2, e3] X.env := by rfl) (hpl : (backTo pos (starEach [e2, e3] X.env)).any (·.1) = false := by rfl) :
    PI X (.Tuple elts kk tpos) (.Call (.Name "zip" p) [e, e2, e3] [] pos) (iZip3 X.K ta) := by
  refine ⟨fun pins s σ H R I hi => ?_⟩
  refine Call_ (ld_blt I hg hm PyProof.Rows.boot_zip (PyProof.Rows.callWith_type1 (thn (ha.run pos pins s σ H _ I hi) fun us s1 ⟨vs, H1, I1, r1, q1⟩ => ?_) hs hpl))
  obtain ⟨a, b, c, xs, ys, zs, ex, qa, qb, qc, q⟩ := q1
  subst ex
  cases r1 with
  | cons ra rr =>
    cases rr with
    | cons rb rr =>
      cases rr with
      | cons rc rr =>
        cases rr; cases ra; cases rb; cases rc
        obtain ⟨its1, _, p1, _⟩ := I1.list qa
        obtain ⟨its2, _, p2, _⟩ := I1.list qb
        obtain ⟨its3, _, p3, _⟩ := I1.list qc
        refine zip_begins3 (begins_list a its1.toArray) (begins_list b its2.toArray) (begins_list c its3.toArray) p1.isList p2.isList p3.isList fun h2 hz hTI hTO f1 f2 f3 hsz hk => wpAny_pyIter_zip hz ?_
        have below : ∀ {l : Addr} {its : List Value} {n : Nat}, s1.heap.get? l = some { cls := .type "list", data := .seq its.toArray n } → ∀ m ∈ [l], m < s1.heap.objs.size := fun h m hm => by rw [List.mem_singleton.mp hm]; exact Heap.lt_size h
        refine ⟨s1.heap.objs.size + 5, [s1.heap.objs.size + 5, s1.heap.objs.size + 3, s1.heap.objs.size + 4, s1.heap.objs.size, s1.heap.objs.size + 1, s1.heap.objs.size + 2], _, _, H1, rfl, I1.kept (t' := s1.toks) hk, turn_z3 (zip_sep3 (N := s1.heap.objs.size) (fp1 := [a]) (fp2 := [b]) (fp3 := [c]) ?_ ?_ ?_) ?_ ?_ ?_, ⟨hz, hTI, ⟨_, _, _, hTO⟩, ⟨_, f1, rfl, rfl⟩, ⟨_, f2, rfl, rfl⟩, ⟨_, f3, rfl, rfl⟩⟩, fun m hm => ?_, q⟩
        · exact fun m hm => by rw [List.mem_singleton.mp hm]; exact p1.lt
        · exact fun m hm => by rw [List.mem_singleton.mp hm]; exact p2.lt
        · exact fun m hm => by rw [List.mem_singleton.mp hm]; exact p3.lt
        · exact Nat.ne_of_lt p1.lt
        · exact Nat.ne_of_lt (Nat.lt_of_lt_of_le p2.lt (Nat.le_add_right _ _))
        · exact Nat.ne_of_lt (Nat.lt_of_lt_of_le p3.lt (Nat.le_add_right _ _))
        · have hge : s1.heap.objs.size ≤ m := by
            simp only [List.mem_cons, List.not_mem_nil, or_false] at hm
            rcases hm with e | e | e | e | e | e <;> (rw [e]; first | exact Nat.le_refl _ | exact Nat.le_add_right _ _)
          exact I1.fpOk hge (I1.hok.fresh hge)
theorem ki_zip3 {X : Cx} {K : PySem.W.Frag} {e e2 e3 : Expr} {ta : TA} {p pos tpos : Pos} {elts : List Expr} {kk : Nat} (hg : Gl X "zip") (hm : X.mg "zip" = none) (ha : PA X [e, e2, e3] ta)
    (hs : starEach [e, e2, e3] X.env = (false, eval e X.env) :: starEach [e2, e3] X.env := by rfl) (hpl : (backTo pos (starEach [e2, e3] X.env)).any (·.1) = false := by rfl) (h : X.K = K := by rfl) :
    PI X (.Tuple elts kk tpos) (.Call (.Name "zip" p) [e, e2, e3] [] pos) (iZip3 K ta) := h ▸ pi_zip3 hg hm ha hs hpl
def Y3 (f g k : Nat → Option V) : Nat → Hp → V → Hp → Prop := fun i H v H2 => ∃ T x y z, v = .ref T ∧ H T = none ∧ H2 = upd H T (.tup [x, y, z]) ∧ f i = some x ∧ g i = some y ∧ k i = some z
theorem walk_z3 {K : PySem.W.Frag} {a b c : Addr} {xs ys zs : List V} (h1 : ys.length = xs.length) (h2 : zs.length = xs.length) : Walk (It3 K a b c) xs.length (fun H => SqL K H a xs ∧ SqL K H b ys ∧ SqL K H c zs) (Y3 (fun i => xs[i]?) (fun i => ys[i]?) (fun i => zs[i]?)) := by
  refine ⟨fun i _ hi hs => ⟨xs, ys, zs, xs[i], ys[i]'(by omega), zs[i]'(by omega), hs.1, hs.2.1, hs.2.2, by simp [hi], by simp [show i < ys.length by omega], by simp [show i < zs.length by omega]⟩, fun _ hs => ⟨xs, ys, zs, hs.1, hs.2.1, hs.2.2, by omega, by omega, by omega⟩, fun i H v H2 _ hs y => ?_⟩
  obtain ⟨T, x, y, z, e1, e2, e3, e4, e5, e6⟩ := y
  exact ⟨T, x, y, z, e1, e2, e3, e4 xs hs.1, e5 ys hs.2.1, e6 zs hs.2.2⟩
end Pot

namespace Pot
open PySem PySem.Spec PyProof.Rows L2
open PySem.Calls
open PySem.W (sortingHeap copyHeap sortLe alike alikeAll keyToks keyToksAll dataLt dataKind KatLex SortsAt sortVals dataType EachIs)
/-! ### sorted of rows that are told apart by parts that can be compared -/
/-- up to the first part in which they differ, that one too, two rows are alike -/
def okCmp : List PyData → List PyData → Bool
  | x :: xs, y :: ys => alike x y && (!PyData.eqv x y || okCmp xs ys)
  | [], [] => true
  | _, _ => false
section
variable {prog : Program} {w : World} {A : Around} {s : Shared}
theorem kat_ok {b fin : Bool} {Q : Bool → Shared → Prop} : ∀ (xs ys : List PyData) (i : Nat) (vs ws : List Value) (as bs : List Addr), ReadsAll s.heap vs xs as → ReadsAll s.heap ws ys bs → okCmp xs ys = true → A.units + min (PyData.depthAll xs) (PyData.depthAll ys) < cLine → (b = true → i = 0 → ∀ x r t, xs = x :: r → x ≠ .tuple t) → fin = decide (xs.length < ys.length) →
    Q (PyProof.Rows.lexLt itemOrd (keyToksAll xs) (keyToksAll ys)) s → KatLex prog w A b fin Q (vs.zip ws) i s := by
  intro xs
  induction xs with
  | nil =>
    intro ys i vs ws as bs ra rb ok hu hb hf hq
    have := PySem.W.katLex_alike (prog := prog) (w := w) (A := A) (s := s) (b := b) (fin := fin) (Q := Q) [] ys i vs ws as bs ra rb
    cases ys with
    | nil => exact this rfl hu hb hf hq
    | cons y ys => cases ok
  | cons x xs ih =>
    intro ys i vs ws as bs ra rb ok hu hb hf hq
    cases ys with
    | nil => cases ok
    | cons y ys =>
      obtain ⟨al, nx⟩ := Bool.and_eq_true_iff.mp ok
      have hf2 : fin = decide (xs.length < ys.length) := by rw [hf]; simp only [List.length_cons, Nat.add_lt_add_iff_right]
      cases ra with
      | cons r rs =>
        cases rb with
        | cons r2 rs2 =>
          rw [List.zip_cons_cons]
          refine PySem.W.kat_cons (PySem.W.eqAt_alike x y A s _ _ _ _ r r2 al (SeqAt.room_head hu) prog w _ _ ?_)
          cases ex : PyData.eqv x y with
          | true =>
            rw [PySem.W.dataLt_all_yes al ex] at hq
            rw [ex] at nx
            exact PySem.W.kat_yes (ih ys (i + 1) _ _ _ _ rs rs2 nx (SeqAt.room_tail hu) (fun _ h0 => absurd h0 (Nat.succ_ne_zero i)) hf2 hq)
          | false =>
            rw [PySem.W.dataLt_all_no al ex] at hq
            refine PySem.W.kat_no (PySem.W.oneLt_alike (fun hbi t => ?_) r r2 al (PySem.W.ne_none_of al ex) (SeqAt.room_head hu) hq)
            obtain ⟨b1, b2⟩ := Bool.and_eq_true_iff.mp hbi
            exact hb b1 (by simpa using b2) x xs t rfl
theorem key_of {h : Heap} {ds : List PyData} {v : Value} {d : PyData} {as : List Addr} (hd : d ∈ ds) (r : Reads h v d as) : (dataKind h ds).keyOf v = some (keyToks d) := by
  have ex : ∃ e, e ∈ ds ∧ ∃ bs, Reads h v e bs := ⟨d, hd, as, r⟩
  have eq1 : (dataKind h ds).keyOf v = some (keyToks ex.choose) := dif_pos ex
  obtain ⟨_, bs, r2⟩ := ex.choose_spec
  rw [eq1, (Reads.unique r2 _ _ r).1]
/-- rows that can be sorted: tuples with a first part, the first parts alike, each two comparable -/
structure RowsCmp (ds : List PyData) : Prop where
  form : ∀ d ∈ ds, ∃ x r, d = .tuple (x :: r)
  first : ∀ x r x2 r2, PyData.tuple (x :: r) ∈ ds → PyData.tuple (x2 :: r2) ∈ ds → alike x x2 = true
  cmp : ∀ xs ys, PyData.tuple xs ∈ ds → PyData.tuple ys ∈ ds → okCmp xs ys = true
theorem sorts_rows {vs : List Value} {ds : List PyData} (e : EachIs (fun v d => ∃ as, Reads s.heap v d as) vs ds) (W : RowsCmp ds) (hu : ∀ d, d ∈ ds → A.units + d.depth < cLine) : SortsAt prog w A s (dataKind s.heap ds) vs := by
  refine ⟨fun v hv => ?_, ?_⟩
  · obtain ⟨d, hd, as, r⟩ := e.left v hv
    exact ⟨_, key_of hd r⟩
  · cases hds : ds with
    | nil =>
      rw [hds] at e
      cases e
      exact ⟨general', fun E x y a b Q ha _ _ => (by obtain ⟨d, _, hd, _⟩ := PySem.W.dataKind_inv ha; exact absurd hd (by simp)), fun h2 => absurd h2 (by simp)⟩
    | cons d0 ds0 =>
      rw [← hds]
      have m0 : d0 ∈ ds := by rw [hds]; exact List.mem_cons_self
      obtain ⟨x0, r0, e0⟩ := W.form d0 m0
      have m0 : PyData.tuple (x0 :: r0) ∈ ds := by rw [← e0]; exact m0
      refine ⟨tuples' (dataType x0 != Value.type "tuple"), ?_, fun h2 E Q hq => ?_⟩
      · intro E x y a b Q ha hb hq
        obtain ⟨d, as, hd, ra, rfl⟩ := PySem.W.dataKind_inv ha
        obtain ⟨d2, as2, hd2, rb, rfl⟩ := PySem.W.dataKind_inv hb
        obtain ⟨x1, r1, rfl⟩ := W.form d hd
        obtain ⟨x2, r2, rfl⟩ := W.form d2 hd2
        have room : A.units + min (PyData.tuple (x1 :: r1)).depth (PyData.tuple (x2 :: r2)).depth < cLine := Nat.lt_of_le_of_lt (Nat.add_le_add_left (Nat.min_le_left _ _) _) (hu _ hd)
        have hq2 : Q (dataLt (.tuple (x1 :: r1)) (.tuple (x2 :: r2))) s := hq
        rw [PySem.W.dataLt_tuple] at hq2
        cases ra with
        | @tuple l o us n _ _ h1 h2 h3 h4 =>
          cases rb with
          | @tuple l2 o2 us2 n2 _ _ k1 k2 k3 k4 =>
            have z1 : us.size = (x1 :: r1).length := by simpa using SeqAt.ReadsAll.length _ _ _ h4
            have z2 : us2.size = (x2 :: r2).length := by simpa using SeqAt.ReadsAll.length _ _ _ k4
            refine PySem.W.kat_lt h1 h3 k1 k3 (kat_ok (prog := prog) (w := w) (A := A) (s := s) (x1 :: r1) (x2 :: r2) 0 _ _ _ _ h4 k4 (W.cmp _ _ hd hd2) (by have := SeqAt.room_in room; omega) (fun hb1 _ xx rr t ex => ?_) (by rw [z1, z2]) hq2)
            obtain ⟨rfl, rfl⟩ := List.cons.inj ex
            rw [← PySem.W.dataType_alike (W.first _ _ _ _ hd m0)] at hb1
            exact PySem.W.dataType_tuple hb1 t
      · obtain ⟨fs, t1, t2, t3⟩ := PySem.W.each_katTups e W.form
        refine PySem.W.kat_kind (T := dataType x0) t1 (by omega) (fun f hf => ?_) (beq_self_eq_true _) hq
        obtain ⟨xx, rr, as, m1, m2⟩ := t3 f hf
        rw [← PySem.W.dataType_alike (W.first _ _ _ _ m1 m0)]
        exact PySem.W.looks_reads m2
end
theorem perm_lift {α β : Type} (f : α → β) {out l : List β} (h : out.Perm l) : ∀ L : List α, L.map f = l → ∃ L2 : List α, L2.Perm L ∧ L2.map f = out := by
  induction h with
  | nil => intro L e; exact ⟨L, .refl _, e⟩
  | cons x _ ih =>
    intro L e
    cases L with
    | nil => cases e
    | cons y L =>
      obtain ⟨e1, e2⟩ := List.cons.inj e
      obtain ⟨L2, p2, m2⟩ := ih L e2
      exact ⟨y :: L2, p2.cons y, by rw [List.map_cons, m2, e1]⟩
  | swap x y l =>
    intro L e
    match L, e with
    | a :: b :: L, e =>
      obtain ⟨e1, e2⟩ := List.cons.inj e
      obtain ⟨e2, e3⟩ := List.cons.inj e2
      exact ⟨b :: a :: L, .swap a b L, by rw [List.map_cons, List.map_cons, e1, e2, e3]⟩
  | trans _ _ ih1 ih2 =>
    intro L e
    obtain ⟨L2, p2, m2⟩ := ih2 L e
    obtain ⟨L3, p3, m3⟩ := ih1 L2 m2
    exact ⟨L3, p3.trans p2, m3⟩
section
variable {X : Cx} {K : PySem.W.Frag}
theorem each_reads {pins : List (Addr × Obj)} {σ : L2.St} {H : Hp} {s : Shared} (I : Inv X pins σ H s) : ∀ {xs : List V} {its : List Value} {ds : List PyData}, Vals xs its → DpAll X.K H xs ds → ∃ L : List (Value × V × PyData), L.map (·.1) = its ∧ L.map (·.2.1) = xs ∧ L.map (·.2.2) = ds ∧ ∀ t ∈ L, RelV t.2.1 t.1 ∧ Dp X.K H t.2.1 t.2.2
  | _, _, _, .nil, .nil => ⟨[], rfl, rfl, rfl, fun _ h => (List.not_mem_nil h).elim⟩
  | _, _, _, .cons (a := x) (b := u) r rs, .cons (d := d) p ps => by
    obtain ⟨L, h1, h2, h3, h4⟩ := each_reads I rs ps
    refine ⟨(u, x, d) :: L, by rw [List.map_cons, h1], by rw [List.map_cons, h2], by rw [List.map_cons, h3], fun t ht => ?_⟩
    rcases List.mem_cons.mp ht with e | e
    · rw [e]; exact ⟨r, p⟩
    · exact h4 t e
/-- sorted of a list of rows: a new list of the same ones -/
def rSortedR (K : PySem.W.Frag) : List V → Hp → VK → Prop := fun vs H Q => ∃ (a : Addr) (xs : List V) (ds : List PyData), vs = [V.ref a] ∧ SqL K H a xs ∧ DpAll K H xs ds ∧ RowsCmp ds ∧ (∀ d ∈ ds, d.depth ≤ 60) ∧
  ∀ (zs : List V) (es : List PyData) (p : Addr), DpAll K H zs es → es.Perm ds → H p = none → Q (.ref p) (upd H p (.lst zs))
theorem cr_sortedR (hu : X.A.units + 70 < cLine) : CallR X (.builtin "sorted") (rSortedR X.K) := by
  intro pins s σ H vs0 us0 Q I r h
  obtain ⟨a, xs, ds, rfl, hs, da, W, dep, q⟩ := h
  obtain ⟨its, rv, hl, hz⟩ := I.list hs
  rw [Vals.ref1 r]
  obtain ⟨L, e1, e2, e3, all⟩ := each_reads I rv da
  have er : EachIs (fun v d => ∃ as, Reads s.heap v d as) its ds := by
    rw [← e1, ← e3]
    clear e1 e2 e3
    induction L with
    | nil => exact .nil
    | cons t L ih =>
      have ht := all t List.mem_cons_self
      exact .cons (Dp.reads I _ _ _ ht.2 ht.1) (ih fun x hx => all x (List.mem_cons_of_mem _ hx))
  have ll : its.length = xs.length := by rw [← e1, ← e2, List.length_map, List.length_map]
  have ln : its.length ≤ sizeLine := by rw [ll]; exact hz
  have er' : EachIs (fun v d => ∃ as, Reads (sortingHeap (copyHeap s.heap its) (s.heap.objs.size + 1) its) v d as) its ds := er.mono fun _ _ ⟨as, r⟩ => ⟨as, PyProof.Rows.Reads.keeps (fun _ _ => PySem.W.sorting_copy_old) r⟩
  have S := sorts_rows (prog := X.prog) (w := X.w) (A := X.A.in1.in1) (s := { s with heap := sortingHeap (copyHeap s.heap its) (s.heap.objs.size + 1) its }) er' W (fun d hd => by have := dep d hd; simp only [Around.in1]; omega)
  refine PySem.W.sorted_vals hl.isList S ln ?_
  generalize eo : sortVals _ false its its = out
  have po : out.Perm its := by
    rw [← eo]
    unfold sortVals
    have := (List.mergeSort_perm (its.zip its) (sortLe (dataKind (sortingHeap (copyHeap s.heap its) (s.heap.objs.size + 1) its) ds).toKeyOrd false fun p : Keyed => PySem.W.keyD (dataKind (sortingHeap (copyHeap s.heap its) (s.heap.objs.size + 1) its) ds) p.1)).map Prod.snd
    rw [List.map_snd_zip (Nat.le_refl _)] at this
    exact this
  obtain ⟨L2, p2, m2⟩ := perm_lift (·.1) po L e1
  have rv2 : Vals (L2.map (·.2.1)) out := by
    rw [← m2]
    clear m2
    have hh : ∀ t ∈ L2, RelV t.2.1 t.1 := fun t ht => (all t (p2.mem_iff.mp ht)).1
    clear p2
    induction L2 with
    | nil => exact .nil
    | cons t L2 ih => exact .cons (hh t List.mem_cons_self) (ih fun x hx => hh x (List.mem_cons_of_mem _ hx))
  have dp2 : DpAll X.K H (L2.map (·.2.1)) (L2.map (·.2.2)) := by
    have hh : ∀ t ∈ L2, Dp X.K H t.2.1 t.2.2 := fun t ht => (all t (p2.mem_iff.mp ht)).2
    clear p2 m2 rv2
    induction L2 with
    | nil => exact .nil
    | cons t L2 ih => exact .cons (hh t List.mem_cons_self) (ih fun x hx => hh x (List.mem_cons_of_mem _ hx))
  have pd : (L2.map (·.2.2)).Perm ds := by rw [← e3]; exact p2.map _
  obtain ⟨ep, hat⟩ := PyProof.Rows.sortedAll_at s.heap its out.toArray
  have fr : H (s.heap.objs.size + 1) = none := I.hok.fresh (Nat.le_succ _)
  exact ⟨.ref _, upd H (s.heap.objs.size + 1) (.lst (L2.map (·.2.1))), I.laid (t' := s.toks) (fun _ _ => PyProof.Rows.sortedAll_old) (Nat.le_succ _) ⟨by rw [List.length_map, p2.length_eq, ← List.length_map (f := fun x : Value × V × PyData => x.1), e1]; exact ln, out, ep, rv2, hat⟩, rfl, q _ _ _ dp2 pd fr⟩
theorem kc_sortedR (hu : X.A.units + 70 < cLine) (h : X.K = K := by rfl) : CallR X (.builtin "sorted") (rSortedR K) := h ▸ cr_sortedR hu
end
end Pot

namespace Pot
open PySem PySem.Spec PyProof.Rows L2
/-! ### a box of three numbers: the second below 2 ^ 62, the last at most n -/
def Bp (H : Hp) (b : Addr) (n : Nat) : Prop := ∃ x y z : Int, H b = some (.lst [.int x, .int y, .int z]) ∧ 0 ≤ z ∧ z ≤ n ∧ 0 ≤ y ∧ y < 2 ^ 62
section
variable {H H' : Hp} {b p : Addr} {n m : Nat} {o : HO}
theorem Bp.bx (B : Bp H b n) : Bx H b := by
  obtain ⟨x, y, z, h, _⟩ := B
  exact ⟨x, y, z, h⟩
theorem Bp.same (B : Bp H b n) (s : Same H H') : Bp H' b n := by
  obtain ⟨x, y, z, h, h2⟩ := B
  exact ⟨x, y, z, s _ _ h, h2⟩
theorem Bp.put (B : Bp H b n) (h : H p = none) : Bp (upd H p o) b n := B.same (same_upd h)
theorem Bp.wr (B : Bp H b n) (h : p ≠ b) : Bp (upd H p o) b n := by
  obtain ⟨x, y, z, e, h2⟩ := B
  exact ⟨x, y, z, by rw [upd_ne h.symm]; exact e, h2⟩
theorem Bp.mono (B : Bp H b n) (h : n ≤ m) : Bp H b m := by
  obtain ⟨x, y, z, e, h1, h2, h3⟩ := B
  exact ⟨x, y, z, e, h1, by omega, h3⟩
theorem Bp.ne (B : Bp H b n) (h : H p = none) : p ≠ b := B.bx.ne h
theorem Live.pw (B : Bp H b n) : Live [b] H := Live.one B.bx
end
end Pot

namespace Pot
open PySem PySem.Spec PyProof.Rows L2
/-! ### the names of cluster C: unlike each other -/
def Nm (z : Str) : Prop := Wd 8 z ∧ 0 < z.length
def ltN (x : Int) : Str := ⟨#[97 + x.toNat]⟩
theorem str_app (a b : Str) : (a ++ b).cps.toList = a.cps.toList ++ b.cps.toList := by
  show (a.cps ++ b.cps).toList = _
  simp
theorem str_eq {a b : Str} (h : a = b) : a.cps.toList = b.cps.toList := by rw [h]
theorem ltN_list (x : Int) : (ltN x).cps.toList = [97 + x.toNat] := rfl
theorem ltN_len (x : Int) : (ltN x).length = 1 := rfl
def vlN (fi stp : Int) (i : Nat) : Int := (fi + stp * (0 + (i : Int))) % 676
def bsN (hd tl : Str) (fi stp : Int) (i : Nat) : Str := hd ++ ltN (vlN fi stp i / 26) ++ ltN (vlN fi stp i % 26) ++ tl
def nmN (hd tl : Str) (fi stp lo : Int) (i : Nat) : Str := if lo = 1 ∧ i % 2 = 1 then bsN hd tl fi stp (i - 1) ++ ltN ((fi + (0 + (i : Int))) % 26) else bsN hd tl fi stp i
def StpN (s : Int) : Prop := s = 1 ∨ s = 3 ∨ s = 5 ∨ s = 7 ∨ s = 25 ∨ s = 675
theorem vlN_pos (fi stp : Int) (i : Nat) : 0 ≤ vlN fi stp i ∧ vlN fi stp i < 676 := ⟨Int.emod_nonneg _ (by decide), Int.emod_lt_of_pos _ (by decide)⟩
theorem bsN_len (hd tl : Str) (fi stp : Int) (i : Nat) : (bsN hd tl fi stp i).length = hd.length + 2 + tl.length := by
  unfold bsN
  rw [strLen_append, strLen_append, strLen_append, ltN_len, ltN_len]
theorem bsN_wd {hd tl : Str} (h1 : Wd 3 hd) (h2 : Wd 2 tl) (fi stp : Int) (i : Nat) : Wd 7 (bsN hd tl fi stp i) ∧ 0 < (bsN hd tl fi stp i).length := by
  have := vlN_pos fi stp i
  refine ⟨wd_add (wd_add (wd_add h1 (wd_letter (by omega) (by omega))) (wd_letter (by omega) (by omega))) h2, ?_⟩
  rw [bsN_len]; omega
theorem nmN_nm {hd tl : Str} (h1 : Wd 3 hd) (h2 : Wd 2 tl) (fi stp lo : Int) (i : Nat) : Nm (nmN hd tl fi stp lo i) := by
  unfold nmN
  have l0 : 0 ≤ (fi + (0 + (i : Int))) % 26 := Int.emod_nonneg _ (by decide)
  have l1 : (fi + (0 + (i : Int))) % 26 < 26 := Int.emod_lt_of_pos _ (by decide)
  by_cases h : lo = 1 ∧ i % 2 = 1
  · rw [if_pos h]
    have b := bsN_wd h1 h2 fi stp (i - 1)
    exact ⟨wd_add b.1 (wd_letter l0 l1), by rw [strLen_append]; have := b.2; omega⟩
  · rw [if_neg h]
    have b := bsN_wd h1 h2 fi stp i
    exact ⟨b.1.mono (by decide), b.2⟩
theorem stp_inj {fi stp : Int} (s : StpN stp) {i j : Nat} (hi : i < 12) (hj : j < 12) (h : vlN fi stp i = vlN fi stp j) : i = j := by
  unfold vlN at h
  rcases s with rfl | rfl | rfl | rfl | rfl | rfl <;> omega
theorem stp_inj26 {fi stp : Int} (s : StpN stp) {i j : Nat} (hi : i < 12) (hj : j < 12) (h : (fi + stp * (0 + (i : Int))) % 26 = (fi + stp * (0 + (j : Int))) % 26) : i = j := by
  rcases s with rfl | rfl | rfl | rfl | rfl | rfl <;> omega
theorem bsN_inj {hd tl : Str} {fi stp : Int} (s : StpN stp) {i j : Nat} (hi : i < 12) (hj : j < 12) (h : bsN hd tl fi stp i = bsN hd tl fi stp j) : i = j := by
  have h2 := str_eq h
  unfold bsN at h2
  simp only [str_app, ltN_list, List.append_assoc, List.append_cancel_left_eq, List.cons_append, List.nil_append, List.cons.injEq] at h2
  have a := vlN_pos fi stp i
  have b := vlN_pos fi stp j
  exact stp_inj (fi := fi) s hi hj (by omega)
theorem nmN_inj {hd tl : Str} {fi stp lo : Int} (s : StpN stp) {i j : Nat} (hi : i < 12) (hj : j < 12) (h : nmN hd tl fi stp lo i = nmN hd tl fi stp lo j) : i = j := by
  unfold nmN at h
  by_cases c1 : lo = 1 ∧ i % 2 = 1 <;> by_cases c2 : lo = 1 ∧ j % 2 = 1
  · rw [if_pos c1, if_pos c2] at h
    have h2 := str_eq h
    rw [str_app, str_app] at h2
    have l : (bsN hd tl fi stp (i - 1)).cps.toList.length = (bsN hd tl fi stp (j - 1)).cps.toList.length := by
      have e1 := bsN_len hd tl fi stp (i - 1)
      have e2 := bsN_len hd tl fi stp (j - 1)
      rw [Array.length_toList, Array.length_toList]
      exact e1.trans e2.symm
    have h3 := (List.append_inj h2 l).1
    have h4 : bsN hd tl fi stp (i - 1) = bsN hd tl fi stp (j - 1) := by
      cases e1 : bsN hd tl fi stp (i - 1) with
      | mk x => cases e2 : bsN hd tl fi stp (j - 1) with
        | mk y =>
          rw [e1, e2] at h3
          exact congrArg Str.mk (Array.toList_inj.mp h3)
    have := bsN_inj s (i := i - 1) (j := j - 1) (by omega) (by omega) h4
    omega
  · rw [if_pos c1, if_neg c2] at h
    have := congrArg Str.length h
    rw [strLen_append, bsN_len, bsN_len, ltN_len] at this
    omega
  · rw [if_neg c1, if_pos c2] at h
    have := congrArg Str.length h
    rw [strLen_append, bsN_len, bsN_len, ltN_len] at this
    omega
  · rw [if_neg c1, if_neg c2] at h
    exact bsN_inj s hi hj h
theorem nodup_map_range {f : Nat → Str} {m : Nat} (h : ∀ i j, i < m → j < m → f i = f j → i = j) : ((List.range m).map f).Nodup := by
  rw [List.Nodup, List.pairwise_map]
  refine List.Pairwise.imp_of_mem (fun {a b} ha hb hab e => ?_) (List.nodup_range (n := m))
  exact hab (h a b (List.mem_range.mp ha) (List.mem_range.mp hb) e)
theorem nmN_nodup {hd tl : Str} {fi stp lo : Int} (s : StpN stp) {m : Nat} (hm : m ≤ 12) : ((List.range m).map (nmN hd tl fi stp lo)).Nodup :=
  nodup_map_range fun i j hi hj h => nmN_inj s (by omega) (by omega) h
theorem letN_nodup {fi stp : Int} (s : StpN stp) {m : Nat} (hm : m ≤ 12) : ((List.range m).map fun i : Nat => ltN ((fi + stp * (0 + (i : Int))) % 26)).Nodup :=
  nodup_map_range fun i j hi hj h => by
    have h2 := str_eq h
    rw [ltN_list, ltN_list] at h2
    have h3 := (List.cons.inj h2).1
    have a0 : 0 ≤ (fi + stp * (0 + (i : Int))) % 26 := Int.emod_nonneg _ (by decide)
    have b0 : 0 ≤ (fi + stp * (0 + (j : Int))) % 26 := Int.emod_nonneg _ (by decide)
    exact stp_inj26 (fi := fi) s (by omega) (by omega) (by omega)
def wordsN : List Str := ["never", "at", "undo", "slots", "done", "wash", "pot", "kind", "fill", "gather", "team", "colour"]
theorem words_eq : Txt.split (Str.ofString "never at undo slots done wash pot kind fill gather team colour") (Str.ofString " ") = wordsN := by decide +kernel
theorem words_nm : ∀ z ∈ wordsN, Nm z := by
  unfold Nm Wd wordsN
  decide +kernel
theorem words_nodup : ∀ j : Nat, j < 12 → ((wordsN ++ wordsN).drop j |>.take 12).Nodup := by
  unfold wordsN
  decide +kernel
theorem words_cut {j m : Nat} (hj : j < 12) (hm : m ≤ 12) : ((wordsN ++ wordsN).drop j |>.take m).Nodup ∧ ((wordsN ++ wordsN).drop j |>.take m).length = m ∧ ∀ z ∈ ((wordsN ++ wordsN).drop j |>.take m), Nm z := by
  refine ⟨?_, ?_, fun z hz => ?_⟩
  · have := words_nodup j hj
    have e : ((wordsN ++ wordsN).drop j |>.take m) = (((wordsN ++ wordsN).drop j |>.take 12).take m) := by rw [List.take_take, Nat.min_eq_left hm]
    rw [e]
    exact this.sublist (List.take_sublist _ _)
  · rw [List.length_take, List.length_drop, List.length_append]
    show min m (12 + 12 - j) = m
    omega
  · have := List.mem_of_mem_drop (List.mem_of_mem_take hz)
    exact (List.mem_append.mp this).elim (words_nm z) (words_nm z)
theorem wd1_sum : ∀ {l : List Str}, (∀ y ∈ l, Wd 1 y) → (l.map (·.length)).sum ≤ l.length
  | [], _ => Nat.le_refl _
  | a :: r, h => by
    have h1 := (h a List.mem_cons_self).1
    have h2 := wd1_sum (l := r) fun y hy => h y (List.mem_cons_of_mem _ hy)
    simp only [List.map_cons, List.sum_cons, List.length_cons]
    omega
end Pot

namespace Pot
open PySem PySem.Spec PyProof.Rows L2
/-! ### the palettes of cluster C -/
structure PalC (cs : List Col) (ws : List Wsh) : Prop where
  ok : PalOk cs ws
  ne : 0 < cs.length
  le : cs.length ≤ 12
  ch : ∀ c ∈ cs, 1 ≤ c.2.1 ∧ c.2.1 ≤ 20 ∧ 0 ≤ c.2.2.1 ∧ c.2.2.1 ≤ 99
  wa : ∀ r ∈ ws, ∀ i, r.2.2 = some i → 0 ≤ i ∧ i ≤ 99
  wd : ∀ c ∈ cs, Nm c.1
  nd : (cs.map (·.1)).Nodup
  wp : (ws.map fun r => (r.1, r.2.1)).Nodup
  wn : ∀ r ∈ ws, r.1 ≠ r.2.1
/-- what stands while a palette is made: the names at N, colours at C, washes at W -/
structure PMc (K : PySem.W.Frag) (H0 : Hp) (b C W N : Addr) (ns : List Str) (n : Nat) (xs us : List V) (cs : List Col) (ws : List Wsh) (H : Hp) : Prop where
  st : Bp H b n
  sm : Sm [b] H0 H
  hN : off H [C, W, b] N = some (.lst (ns.map V.str))
  hC : H C = some (.lst xs)
  dC : DpAll K (off H [C, W, b]) xs (cs.map colD)
  hW : H W = some (.lst us)
  dW : DpAll K (off H [C, W, b]) us (ws.map washD)
structure PAc (H0 : Hp) (b C W : Addr) : Prop where
  Cb : C ≠ b
  Wb : W ≠ b
  CW : C ≠ W
  nC : H0 C = none
  nW : H0 W = none
section
variable {K : PySem.W.Frag} {H0 H H' : Hp} {b C W N p : Addr} {ns : List Str} {n m : Nat} {xs us : List V} {cs : List Col} {ws : List Wsh} {o : HO}
theorem PMc.live (P : PMc K H0 b C W N ns n xs us cs ws H) : Live [C, W, b] H := ((Live.pw P.st).cons P.hW).cons P.hC
theorem PMc.drawn (P : PMc K H0 b C W N ns n xs us cs ws H) (a : PAc H0 b C W) (st : Bp H' b m) (s : Sm [b] H H') : PMc K H0 b C W N ns m xs us cs ws H' :=
  have s2 : Sm [C, W, b] H H' := sm_one (by simp) s
  ⟨st, P.sm.trans s, s2 _ _ P.hN, sm1_at s a.Cb P.hC, dpAll_same s2 P.dC, sm1_at s a.Wb P.hW, dpAll_same s2 P.dW⟩
theorem PMc.same (P : PMc K H0 b C W N ns n xs us cs ws H) (s : Same H H') : PMc K H0 b C W N ns n xs us cs ws H' :=
  have s2 : Sm [C, W, b] H H' := sm_of s
  ⟨P.st.same s, P.sm.trans (sm_of s), s2 _ _ P.hN, s _ _ P.hC, dpAll_same s2 P.dC, s _ _ P.hW, dpAll_same s2 P.dW⟩
theorem PMc.put (P : PMc K H0 b C W N ns n xs us cs ws H) (h : H p = none) : PMc K H0 b C W N ns n xs us cs ws (upd H p o) := P.same (same_upd h)
theorem PMc.mono (P : PMc K H0 b C W N ns n xs us cs ws H) (h : n ≤ m) : PMc K H0 b C W N ns m xs us cs ws H := ⟨P.st.mono h, P.sm, P.hN, P.hC, P.dC, P.hW, P.dW⟩
theorem PMc.colour (P : PMc K H0 b C W N ns n xs us cs ws H) (a : PAc H0 b C W) {v : V} {r : Col} (hv : Dp K (off H [C, W, b]) v (colD r)) : PMc K H0 b C W N ns n (xs ++ [v]) us (cs ++ [r]) ws (upd H C (.lst (xs ++ [v]))) :=
  have s2 : Sm [C, W, b] H (upd H C (.lst (xs ++ [v]))) := sm_wr (by simp)
  ⟨P.st.wr a.Cb, smp P.sm a.nC, s2 _ _ P.hN, upd_same, by rw [List.map_append]; exact dpAll_same s2 (dpAll_app P.dC (.cons hv .nil)), by rw [upd_ne a.CW.symm]; exact P.hW, dpAll_same s2 P.dW⟩
theorem PMc.wash (P : PMc K H0 b C W N ns n xs us cs ws H) (a : PAc H0 b C W) {v : V} {r : Wsh} (hv : Dp K (off H [C, W, b]) v (washD r)) : PMc K H0 b C W N ns n xs (us ++ [v]) cs (ws ++ [r]) (upd H W (.lst (us ++ [v]))) :=
  have s2 : Sm [C, W, b] H (upd H W (.lst (us ++ [v]))) := sm_wr (by simp)
  ⟨P.st.wr a.Wb, smp P.sm a.nW, s2 _ _ P.hN, by rw [upd_ne a.CW]; exact P.hC, dpAll_same s2 P.dC, upd_same, by rw [List.map_append]; exact dpAll_same s2 (dpAll_app P.dW (.cons hv .nil))⟩
end
theorem rows_cols (cs : List Col) : RowsCmp (cs.map colD) := by
  refine ⟨fun d hd => ?_, fun x r x2 r2 h1 h2 => ?_, fun xs ys h1 h2 => ?_⟩
  · obtain ⟨c, _, rfl⟩ := List.mem_map.mp hd
    exact ⟨_, _, rfl⟩
  · obtain ⟨c, _, e⟩ := List.mem_map.mp h1
    obtain ⟨c2, _, e2⟩ := List.mem_map.mp h2
    obtain ⟨rfl, _⟩ := List.cons.inj (PyData.tuple.inj e)
    obtain ⟨rfl, _⟩ := List.cons.inj (PyData.tuple.inj e2)
    rfl
  · obtain ⟨c, _, e⟩ := List.mem_map.mp h1
    obtain ⟨c2, _, e2⟩ := List.mem_map.mp h2
    rw [← PyData.tuple.inj e, ← PyData.tuple.inj e2]
    have a1 : ∀ x y : Str, PySem.W.alike (.str x) (.str y) = true := fun _ _ => rfl
    have a2 : ∀ x y : Int, PySem.W.alike (.int x) (.int y) = true := fun _ _ => rfl
    simp only [okCmp, a1, a2, Bool.true_and, Bool.or_true, Bool.and_true]
theorem depth_col (c : Col) : (colD c).depth ≤ 60 := by
  show PyData.depthAll _ + 1 ≤ 60
  simp only [PyData.depthAll, PyData.depth]
  omega
theorem depth_wash (r : Wsh) : (washD r).depth ≤ 60 := by
  show PyData.depthAll _ + 1 ≤ 60
  cases h : r.2.2 <;> (simp only [PyData.depthAll, PyData.depth, optD]; omega)
theorem alike_opt (o : Option Int) : PySem.W.alike (optD o) (optD o) = true := by cases o <;> rfl
theorem pair_eq {ws : List Wsh} (h : (ws.map fun r => (r.1, r.2.1)).Nodup) {r r2 : Wsh} (h1 : r ∈ ws) (h2 : r2 ∈ ws) (e1 : r.1 = r2.1) (e2 : r.2.1 = r2.2.1) : r = r2 := by
  obtain ⟨i, hi, rfl⟩ := List.getElem_of_mem h1
  obtain ⟨j, hj, rfl⟩ := List.getElem_of_mem h2
  have := (List.getElem_inj (i := i) (j := j) (h₀ := by rw [List.length_map]; exact hi) (h₁ := by rw [List.length_map]; exact hj) h).mp (by rw [List.getElem_map, List.getElem_map]; exact Prod.ext e1 e2)
  subst this; rfl
theorem rows_wash {ws : List Wsh} (h : (ws.map fun r => (r.1, r.2.1)).Nodup) : RowsCmp (ws.map washD) := by
  refine ⟨fun d hd => ?_, fun x r x2 r2 h1 h2 => ?_, fun xs ys h1 h2 => ?_⟩
  · obtain ⟨c, _, rfl⟩ := List.mem_map.mp hd
    exact ⟨_, _, rfl⟩
  · obtain ⟨c, _, e⟩ := List.mem_map.mp h1
    obtain ⟨c2, _, e2⟩ := List.mem_map.mp h2
    obtain ⟨rfl, _⟩ := List.cons.inj (PyData.tuple.inj e)
    obtain ⟨rfl, _⟩ := List.cons.inj (PyData.tuple.inj e2)
    rfl
  · obtain ⟨c, m1, e⟩ := List.mem_map.mp h1
    obtain ⟨c2, m2, e2⟩ := List.mem_map.mp h2
    rw [← PyData.tuple.inj e, ← PyData.tuple.inj e2]
    have a1 : ∀ x y : Str, PySem.W.alike (.str x) (.str y) = true := fun _ _ => rfl
    simp only [okCmp, a1, Bool.true_and, Bool.or_true, Bool.and_true]
    cases e1 : PyData.eqv (.str c.1) (.str c2.1) with
    | false => rfl
    | true =>
      cases e3 : PyData.eqv (.str c.2.1) (.str c2.2.1) with
      | false => rfl
      | true =>
        have x1 : c.1 = c2.1 := by simpa [PyData.eqv] using e1
        have x2 : c.2.1 = c2.2.1 := by simpa [PyData.eqv] using e3
        rw [pair_eq h m1 m2 x1 x2, alike_opt]; rfl
section
variable {K : PySem.W.Frag}
theorem go_offB {H : Hp} {b : Addr} {n : Nat} (B : Bp H b n) (a : Addr) (us : List V) (h : SqT K H a us) : SqT K (off H [b]) a us := by
  obtain ⟨x, y, z, h1, _⟩ := B
  have go : ∀ o, (H a = some (.tup us) ∨ H a = some (.frz o (.tup us))) → a ∉ [b] := fun o e z => by
    rw [List.mem_singleton] at z; subst z; rw [h1] at e; rcases e with e | e <;> cases e
  rcases h with (h | ⟨o, h⟩) | h
  · exact .inl (.inl (by rw [off_out (go ⟨.none, none, .fields #[], #[]⟩ (.inl h))]; exact h))
  · exact .inl (.inr ⟨o, by rw [off_out (go o (.inr h))]; exact h⟩)
  · exact .inr h
theorem dp_offB {H : Hp} {b : Addr} {n : Nat} {v : V} {e : PyData} (B : Bp H b n) (h : noLAll.noL e) (p : Dp K H v e) : Dp K (off H [b]) v e := dp_go (go_offB B) h p
theorem dpAll_offB {H : Hp} {b : Addr} {n : Nat} {vs : List V} {es : List PyData} (B : Bp H b n) (h : noLAll es) (p : DpAll K H vs es) : DpAll K (off H [b]) vs es := dpAll_go (go_offB B) h p
end
theorem div_mod_inj {m i j : Nat} (h1 : i / m = j / m) (h2 : i % m = j % m) : i = j := by
  have a := Nat.div_add_mod i m
  have b := Nat.div_add_mod j m
  rw [h1, h2] at a
  omega
end Pot

namespace Pot
open PySem PySem.Spec PyProof.Rows L2
/-! ### a list that is filled while there is drawn, things beside it that stay -/
structure Acc (K : PySem.W.Frag) (H0 : Hp) (b R : Addr) (fs : List (V × PyData)) (n : Nat) (us : List V) (ds : List PyData) (H : Hp) : Prop where
  st : Bp H b n
  sm : Sm [b] H0 H
  Rb : R ≠ b
  nR : H0 R = none
  fr : ∀ p ∈ fs, Dp K (off H [R, b]) p.1 p.2
  hR : H R = some (.lst us)
  dR : DpAll K (off H [R, b]) us ds
section
variable {K : PySem.W.Frag} {H0 H H' : Hp} {b R p : Addr} {fs : List (V × PyData)} {n m : Nat} {us : List V} {ds : List PyData} {o : HO}
theorem Acc.live (M : Acc K H0 b R fs n us ds H) : Live [R, b] H := (Live.pw M.st).cons M.hR
theorem Acc.drawn (M : Acc K H0 b R fs n us ds H) (st : Bp H' b m) (s : Sm [b] H H') : Acc K H0 b R fs m us ds H' :=
  have s2 : Sm [R, b] H H' := sm_one (by simp) s
  ⟨st, M.sm.trans s, M.Rb, M.nR, fun q hq => dp_same s2 (M.fr q hq), sm1_at s M.Rb M.hR, dpAll_same s2 M.dR⟩
theorem Acc.same (M : Acc K H0 b R fs n us ds H) (s : Same H H') : Acc K H0 b R fs n us ds H' :=
  have s2 : Sm [R, b] H H' := sm_of s
  ⟨M.st.same s, M.sm.trans (sm_of s), M.Rb, M.nR, fun q hq => dp_same s2 (M.fr q hq), s _ _ M.hR, dpAll_same s2 M.dR⟩
theorem Acc.put (M : Acc K H0 b R fs n us ds H) (h : H p = none) : Acc K H0 b R fs n us ds (upd H p o) := M.same (same_upd h)
theorem Acc.mono (M : Acc K H0 b R fs n us ds H) (h : n ≤ m) : Acc K H0 b R fs m us ds H := ⟨M.st.mono h, M.sm, M.Rb, M.nR, M.fr, M.hR, M.dR⟩
theorem Acc.app (M : Acc K H0 b R fs n us ds H) {v : V} {d : PyData} (hv : Dp K (off H [R, b]) v d) : Acc K H0 b R fs n (us ++ [v]) (ds ++ [d]) (upd H R (.lst (us ++ [v]))) :=
  have s2 : Sm [R, b] H (upd H R (.lst (us ++ [v]))) := sm_wr (by simp)
  ⟨M.st.wr M.Rb, smp M.sm M.nR, M.Rb, M.nR, fun q hq => dp_same s2 (M.fr q hq), upd_same, dpAll_same s2 (dpAll_app M.dR (.cons hv .nil))⟩
/-- the list is new -/
theorem Acc.start (B : Bp H b n) (s : Sm [b] H0 H) (h : H R = none) (fr : ∀ p ∈ fs, Dp K (off H [b]) p.1 p.2) : Acc K H0 b R fs n [] [] (upd H R (.lst [])) :=
  ⟨B.put h, s.trans (sm_put h), B.ne h, sm_free s B.bx h, fun q hq => by
    have e : off (upd H R (.lst [])) [R, b] = off H [b] := off_fresh h
    rw [e]; exact fr q hq, upd_same, .nil⟩
theorem Acc.new (M : Acc K H0 b R fs n us ds H) (h : H p = none) : off (upd H p o) [R, b] p = some o := off_new M.live h
/-- the list done: a thing among the others -/
theorem Acc.done (M : Acc K H0 b R fs n us ds H) : Dp K (off H [b]) (.ref R) (.list ds) :=
  .lst (SqL.of (by rw [off_out (by simpa using M.Rb)]; exact M.hR)) (dpAll_same (off_mono (by simp)) M.dR)
theorem Acc.kept (M : Acc K H0 b R fs n us ds H) {q : V × PyData} (h : q ∈ fs) : Dp K (off H [b]) q.1 q.2 := dp_same (off_mono (by simp)) (M.fr q h)
end
theorem e106 : (10 : Int) ^ (6 : Int).toNat = 1000000 := by decide
end Pot

namespace Pot
open PySem PySem.Spec PyProof.Rows L2
section
variable {K : PySem.W.Frag}
/-! ### bounds of drawn data, its texts too -/
def txAll (n : Nat) : List PyData → Prop
  | [] => True
  | x :: xs => tx n x ∧ txAll n xs
where tx (n : Nat) : PyData → Prop
  | .str x => x.length ≤ n ∧ ∀ c ∈ x.cps.toList, c < 128
  | .list xs => txAll n xs
  | .tuple xs => txAll n xs
  | _ => True
abbrev tx (n : Nat) (d : PyData) : Prop := txAll.tx n d
theorem txAll_iff {n : Nat} : ∀ {ds : List PyData}, txAll n ds ↔ ∀ d ∈ ds, tx n d
  | [] => ⟨fun _ _ h => (List.not_mem_nil h).elim, fun _ => trivial⟩
  | x :: xs => ⟨fun h d hd => (List.mem_cons.mp hd).elim (fun e => by rw [e]; exact h.1) fun e => txAll_iff.mp h.2 d e, fun h => ⟨h x List.mem_cons_self, txAll_iff.mpr fun d hd => h d (List.mem_cons_of_mem _ hd)⟩⟩
mutual
theorem tx_mono {n k : Nat} (h : n ≤ k) : ∀ d : PyData, tx n d → tx k d
  | .none, _ => trivial
  | .bool _, _ => trivial
  | .int _, _ => trivial
  | .str x, g => ⟨Nat.le_trans g.1 h, g.2⟩
  | .list xs, g => txAll_mono h xs g
  | .tuple xs, g => txAll_mono h xs g
  | .dict _, _ => trivial
theorem txAll_mono {n k : Nat} (h : n ≤ k) : ∀ ds : List PyData, txAll n ds → txAll k ds
  | [], _ => trivial
  | x :: xs, g => ⟨tx_mono h x g.1, txAll_mono h xs g.2⟩
end
structure Bd (n m C D W : Nat) (d : PyData) : Prop where
  t : Th m C D W d
  x : tx n d
structure Bds (n m C D W : Nat) (ds : List PyData) : Prop where
  t : Ths m C D W ds
  x : ∀ d ∈ ds, tx n d
section
variable {n m C D W n' m' C' D' W' : Nat} {d x : PyData} {ds es xs ys : List PyData}
theorem Bd.mono (h : Bd n m C D W d) (a : n ≤ n') (b : m ≤ m') (c : C ≤ C') (e : D ≤ D') (f : W ≤ W') : Bd n' m' C' D' W' d := ⟨h.t.mono b c e f, tx_mono a d h.x⟩
theorem Bds.mono (h : Bds n m C D W ds) (a : n ≤ n') (b : m ≤ m') (c : C ≤ C') (e : D ≤ D') (f : W ≤ W') : Bds n' m' C' D' W' ds := ⟨h.t.mono b c e f, fun d hd => tx_mono a d (h.x d hd)⟩
theorem Bds.nil : Bds n m 0 D W [] := ⟨Ths.nil, fun _ h => (List.not_mem_nil h).elim⟩
theorem Bds.app (h : Bds n m C D W xs) (k : Bds n m C' D W ys) : Bds n m (C + C') D W (xs ++ ys) := ⟨h.t.app k.t, fun d hd => (List.mem_append.mp hd).elim (h.x d) (k.x d)⟩
theorem Bds.one (h : Bd n m C D W x) : Bds n m (C + 2) D W [x] := ⟨Ths.one h.t, fun d hd => by rw [List.mem_singleton.mp hd]; exact h.x⟩
theorem Bds.list (h : Bds n m C D W ds) (l : ds.length ≤ W) : Bd n m (C + 3) (D + 1) W (.list ds) := ⟨h.t.list l, txAll_iff.mpr h.x⟩
theorem Bds.tuple (h : Bds n m C D W ds) (l : ds.length ≤ W) : Bd n m (C + 3) (D + 1) W (.tuple ds) := ⟨h.t.tuple l, txAll_iff.mpr h.x⟩
theorem Bd.parts (h : Bd n m C D W d) (e : d = .list ds ∨ d = .tuple ds) : Bds n m (C - 3) (D - 1) W ds ∧ ds.length ≤ W ∧ 3 ≤ C ∧ 1 ≤ D := by
  obtain ⟨a, b⟩ := h.t.parts e
  refine ⟨⟨a, ?_⟩, b⟩
  rcases e with rfl | rfl
  · exact txAll_iff.mp h.x
  · exact txAll_iff.mp h.x
theorem Bds.take (h : Bds n m C D W ds) (k : Nat) : Bds n m C D W (ds.take k) := ⟨h.t.take k, fun d hd => h.x d (List.mem_of_mem_take hd)⟩
theorem Bds.drop (h : Bds n m C D W ds) (k : Nat) : Bds n m C D W (ds.drop k) := ⟨h.t.drop k, fun d hd => h.x d (List.mem_of_mem_drop hd)⟩
theorem Bds.rev (h : Bds n m C D W ds) : Bds n m C D W ds.reverse := ⟨h.t.rev, fun d hd => h.x d (List.mem_reverse.mp hd)⟩
theorem Bds.set {i : Nat} (h : Bds n m C D W ds) (k : Bd n m C' D W x) : Bds n m (C + C' + 2) D W (ds.set i x) := ⟨h.t.set k.t, fun d hd => (List.mem_or_eq_of_mem_set hd).elim (h.x d) fun e => by rw [e]; exact k.x⟩
theorem Bds.mem (h : Bds n m C D W ds) (e : d ∈ ds) : Bd n m C D W d := ⟨h.t.mem e, h.x d e⟩
theorem bd_int {i : Int} (h : i.natAbs ≤ m) : Bd n m 1921 0 0 (.int i) := ⟨⟨h, Nat.le_refl _, Nat.le_refl _, Nat.le_refl _⟩, trivial⟩
theorem bd_bool (b : Bool) : Bd n m 5 0 0 (.bool b) := ⟨⟨trivial, Nat.le_refl _, Nat.le_refl _, Nat.le_refl _⟩, trivial⟩
theorem bd_none : Bd n m 4 0 0 .none := ⟨⟨trivial, Nat.le_refl _, Nat.le_refl _, Nat.le_refl _⟩, trivial⟩
theorem bd_str {z : Str} (h : z.length ≤ n) (h2 : n ≤ 2000) (c : ∀ x ∈ z.cps.toList, x < 128) : Bd n m (10 * n + 2) 0 0 (.str z) := ⟨⟨⟨Nat.le_trans h h2, fun x hx => Nat.lt_trans (c x hx) (by decide)⟩, by show 10 * z.length + 2 ≤ _; omega, Nat.le_refl _, Nat.le_refl _⟩, h, c⟩
end
theorem text_small {i : Int} (h : i.natAbs < 10 ^ 11) : (Str.ofString (toString i)).length ≤ 12 := by
  rw [PySem.ofString_length]
  exact int_text_length_le10 (k := 11) (by decide) h
theorem text_ascii (i : Int) : ∀ c ∈ (Str.ofString (toString i)).cps.toList, c < 128 := by
  intro c hc
  refine Decidable.byContradiction fun h => ?_
  exact PyProof.Rows.int_text_free' c ⟨by omega, by omega⟩ i hc
theorem cut_small (z : Str) (lo hi : Option Int) : (cutS z lo hi).length ≤ z.length := by
  have := cut_len z lo hi
  have h1 : HT.sIx z.length z.length hi ≤ z.length := HT.sIx_le _ _ (Nat.le_refl _) _
  omega
theorem cut_dp {H : Hp} {xs : List V} {ds : List PyData} {n m C D W : Nat} (da : DpAll K H xs ds) (b : Bds n m C D W ds) (lo hi : Option Int) : ∃ ys es, cutV xs lo hi = ys ∧ DpAll K H ys es ∧ Bds n m C D W es ∧ es.length ≤ ds.length ∧ ys.length = es.length := by
  refine ⟨_, (ds.drop (HT.sIx xs.length 0 lo)).take (HT.sIx xs.length xs.length hi - HT.sIx xs.length 0 lo), rfl, ?_, (b.drop _).take _, ?_, ?_⟩
  · exact dpAll_take _ (dpAll_drop _ da)
  · rw [List.length_take, List.length_drop]; omega
  · exact dpAll_len (dpAll_take _ (dpAll_drop _ da))
theorem cut_one (xs : List V) (a : Nat) : (cutV xs (some (a : Int)) (some ((a : Int) + 1))).length ≤ 1 := by
  unfold cutV
  rw [List.length_take, List.length_drop]
  rw [show ((a : Int) + 1) = ((a + 1 : Nat) : Int) by omega, HT.sIx_nat, HT.sIx_nat]
  omega
theorem str_mem_app {a b : Str} {x : Nat} (h : x ∈ (a ++ b).cps.toList) : x ∈ a.cps.toList ∨ x ∈ b.cps.toList := by
  have e : (a ++ b).cps.toList = a.cps.toList ++ b.cps.toList := Array.toList_append
  rw [e] at h
  exact List.mem_append.mp h
abbrev SqA (K : PySem.W.Frag) (H : Hp) (a : Addr) (xs : List V) : Prop := SqL K H a xs ∨ SqT K H a xs
theorem sq_same {H H' : Hp} {a : Addr} {xs : List V} (s : Same H H') (h : SqA K H a xs) : SqA K H' a xs := h.imp s.seq (same_tup s)
theorem sqa_off {H : Hp} {S : List Addr} {a : Addr} {xs : List V} (h : SqA K (off H S) a xs) : SqA K H a xs := sq_same off_sub h
theorem sqa_len {H : Hp} {a : Addr} {xs : List V} (h : SqA K H a xs) : LenV K (.ref a) H xs.length := h.elim (fun h => .inl ⟨_, h, rfl⟩) (fun h => .inr ⟨_, h, rfl⟩)
end
theorem upper_len {z : Str} (h : ∀ c ∈ z.cps.toList, c < 128) : (Txt.upper z).length = z.length := by
  rw [PyProof.Rows.upper_ascii h]
  show (z.cps.map _).size = z.cps.size
  rw [Array.size_map]
theorem upper_small {z : Str} (h : ∀ c ∈ z.cps.toList, c < 128) : ∀ c ∈ (Txt.upper z).cps.toList, c < 128 := by
  rw [PyProof.Rows.upper_ascii h]
  intro c hc
  have hc : c ∈ z.cps.toList.map PyProof.Rows.up1 := by simpa using hc
  obtain ⟨d, hd, rfl⟩ := List.mem_map.mp hc
  have := h d hd
  unfold PyProof.Rows.up1
  split <;> omega
theorem log_smallW {i : Int} (h : i.natAbs ≤ 10 ^ 12) : i.natAbs.log2 < 1920 := by
  by_cases z : i.natAbs = 0
  · rw [z]; decide
  · have := (Nat.log2_lt z).mpr (show i.natAbs < 2 ^ 40 from Nat.lt_of_le_of_lt h (by decide))
    omega
mutual
theorem gd_fineW {m : Nat} (h : m ≤ 10 ^ 12) : ∀ d : PyData, gd m d → fineAll.fine d
  | .none, _ => trivial
  | .bool _, _ => trivial
  | .int i, g => log_smallW (Nat.le_trans g h)
  | .str _, g => fun c hc => Nat.lt_trans (g.2 c hc) (by decide)
  | .list xs, g => gdAll_fineW h xs g
  | .tuple xs, g => gdAll_fineW h xs g
  | .dict _, g => g.elim
theorem gdAll_fineW {m : Nat} (h : m ≤ 10 ^ 12) : ∀ ds : List PyData, gdAll m ds → fineAll ds
  | [], _ => trivial
  | x :: xs, g => ⟨gd_fineW h x g.1, gdAll_fineW h xs g.2⟩
end
theorem Nm.ascii {z : Str} (h : Nm z) : ∀ c ∈ z.cps.toList, c < 128 := fun c hc => by have := (h.1.2 c hc).2; omega
theorem ascii_of {s : String} (h : (Str.ofString s).cps.toList.all (fun c => decide (c < 128)) = true) : ∀ c ∈ (Str.ofString s).cps.toList, c < 128 := fun c hc => of_decide_eq_true (List.all_eq_true.mp h c hc)
theorem ascii_app {a b : Str} (h1 : ∀ x ∈ a.cps.toList, x < 128) (h2 : ∀ x ∈ b.cps.toList, x < 128) : ∀ x ∈ (a ++ b).cps.toList, x < 128 := fun x hx => (str_mem_app hx).elim (h1 x) (h2 x)
theorem ascii_cut {z : Str} (h : ∀ x ∈ z.cps.toList, x < 128) (lo hi : Option Int) : ∀ x ∈ (cutS z lo hi).cps.toList, x < 128 := fun x hx => h x (cut_mem hx)
end Pot

namespace Pot
open PySem PySem.Spec PyProof.Rows L2
/-! ### lists and tuples alike: slices, sums, places -/
section
variable {X : Cx} {K : PySem.W.Frag}
def rSlS' (K : PySem.W.Frag) : V → Option Int → Option Int → Hp → VK → Prop := fun x lo hi H Q => rSlL K x lo hi H Q ∨ rSlA K x lo hi H Q
theorem kl_any (h : X.K = K := by rfl) : SlR X (rSlS' K) := h ▸ SlR.or sl_list sl_tupA
def rCatS' (K : PySem.W.Frag) : R2 := fun x y H Q => rCat x y H Q ∨ rCatA K x y H Q
theorem ko_catS (h : X.K = K := by rfl) : OpR X (binaryOp .Add) (rCatS' K) := h ▸ OpR.or op_cat op_catA
def rIxS' (K : PySem.W.Frag) : R2 := fun x y H Q => rIxL K x y H Q ∨ rIxT K x y H Q
theorem kx_any (h : X.K = K := by rfl) : IxR X (rIxS' K) := h ▸ IxR.or ix_list ix_tup
end
/-- a list's or a tuple's data -/
def seqD (t : Bool) (ds : List PyData) : PyData := if t = true then .tuple ds else .list ds
theorem seqD_t (ds : List PyData) : seqD true ds = .tuple ds := rfl
theorem seqD_l (ds : List PyData) : seqD false ds = .list ds := rfl
theorem seqD_or (t : Bool) (ds : List PyData) : seqD t ds = .list ds ∨ seqD t ds = .tuple ds := by cases t; exact .inl rfl; exact .inr rfl
theorem seqD_tup (t : Bool) (ds : List PyData) : isTupD (seqD t ds) = t := by cases t <;> rfl
theorem seqD_seq (t : Bool) (ds : List PyData) : (isListD (seqD t ds) || isTupD (seqD t ds)) = true := by cases t <;> rfl
def cutL (ds : List PyData) (lo hi : Option Int) : List PyData := (ds.drop (HT.sIx ds.length 0 lo)).take (HT.sIx ds.length ds.length hi - HT.sIx ds.length 0 lo)
theorem cutL_le (ds : List PyData) (lo hi : Option Int) : (cutL ds lo hi).length ≤ ds.length := by
  unfold cutL
  rw [List.length_take, List.length_drop]; omega
theorem cutL_head (ds : List PyData) (a : Nat) : cutL ds none (some (a : Int)) = ds.take a := by
  unfold cutL
  rw [HT.sIx_nat]
  show (ds.drop 0).take (min a ds.length - 0) = _
  rw [List.drop_zero, Nat.sub_zero]
  rcases Nat.le_total a ds.length with h | h
  · rw [Nat.min_eq_left h]
  · rw [Nat.min_eq_right h, List.take_length, List.take_of_length_le h]
theorem cutL_tail (ds : List PyData) (a : Nat) : cutL ds (some (a : Int)) none = ds.drop a := by
  unfold cutL
  rw [HT.sIx_nat]
  show (ds.drop (min a ds.length)).take (ds.length - min a ds.length) = _
  rcases Nat.le_total a ds.length with h | h
  · rw [Nat.min_eq_left h, List.take_of_length_le (by rw [List.length_drop]; exact Nat.le_refl _)]
  · rw [Nat.min_eq_right h, List.drop_length, List.drop_of_length_le h, List.take_nil]
/-- a value that is a list of its own or a tuple -/
def SeqV (K : PySem.W.Frag) (H : Hp) (t : Bool) (y : V) (ds : List PyData) : Prop := ∃ a xs, y = .ref a ∧ DpAll K H xs ds ∧ (if t = true then SqT K H a xs else H a = some (.lst xs))
section
variable {K : PySem.W.Frag} {H H' : Hp} {S : List Addr} {t : Bool} {x y : V} {ds es : List PyData} {lo hi : Option Int} {Q : VK}
theorem SeqV.dp (h : SeqV K H t y ds) : Dp K H y (seqD t ds) := by
  obtain ⟨a, xs, rfl, da, hs⟩ := h
  cases t with
  | true => exact .tup hs da
  | false => exact .lst (SqL.of hs) da
theorem SeqV.same (s : Same H H') (h : SeqV K H t y ds) : SeqV K H' t y ds := by
  obtain ⟨a, xs, rfl, da, hs⟩ := h
  refine ⟨a, xs, rfl, dpAll_same s da, ?_⟩
  cases t with
  | true => exact same_tup s hs
  | false => exact s _ _ hs
theorem sl_seq (lv : Live S H) (d : Dp K (off H S) x (seqD t ds)) (q : ∀ H' y, Same H H' → SeqV K (off H' S) t y (cutL ds lo hi) → Q y H') : rSlS' K x lo hi H Q := by
  cases t with
  | true =>
    obtain ⟨a, xs, rfl, hs, da⟩ := dp_tup d
    have lx := dpAll_len da
    refine .inr ⟨a, xs, rfl, sqt_off hs, fun h => ?_, fun h p np => ?_⟩
    · refine q _ _ (Same.refl _) ⟨a, xs, rfl, ?_, hs⟩
      have e : cutL ds lo hi = ds := by
        unfold cutL
        rw [lx] at h
        rw [h.1, h.2, List.drop_zero, Nat.sub_zero, List.take_length]
      rw [e]; exact da
    · refine q _ _ (same_upd np) ⟨p, _, rfl, ?_, .inl (.inl (off_new lv np))⟩
      unfold cutL
      rw [← lx]
      exact dpAll_same (sm_put np) (dpAll_take _ (dpAll_drop _ da))
  | false =>
    obtain ⟨a, xs, rfl, hs, da⟩ := dp_lst d
    have lx := dpAll_len da
    refine .inl ⟨a, xs, rfl, sq_off hs, fun p np => ?_⟩
    refine q _ _ (same_upd np) ⟨p, _, rfl, ?_, off_new lv np⟩
    unfold cutL
    rw [← lx]
    exact dpAll_same (sm_put np) (dpAll_take _ (dpAll_drop _ da))
theorem cat_seq (lv : Live S H) (d : SeqV K (off H S) t x ds) (e : SeqV K (off H S) t y es) (l : ds.length + es.length ≤ sizeLine) (q : ∀ H' z, Same H H' → SeqV K (off H' S) t z (ds ++ es) → Q z H') : rCatS' K x y H Q := by
  obtain ⟨a, xs, rfl, da, hs⟩ := d
  obtain ⟨b, ys, rfl, db, ht⟩ := e
  have lx := dpAll_len da
  have ly := dpAll_len db
  cases t with
  | true =>
    have hs : SqT K (off H S) a xs := hs
    have ht : SqT K (off H S) b ys := ht
    refine .inr ⟨a, b, xs, ys, rfl, rfl, sqt_off hs, sqt_off ht, by rw [lx, ly]; exact l, fun z => ?_, fun z z2 => ?_, fun z z2 p np => ?_⟩
    · refine q _ _ (Same.refl _) ⟨b, ys, rfl, ?_, ht⟩
      have : ds = [] := List.length_eq_zero_iff.mp (by rw [← lx, z]; rfl)
      rw [this]; exact db
    · refine q _ _ (Same.refl _) ⟨a, xs, rfl, ?_, hs⟩
      have : es = [] := List.length_eq_zero_iff.mp (by rw [← ly, z2]; rfl)
      rw [this, List.append_nil]; exact da
    · exact q _ _ (same_upd np) ⟨p, _, rfl, dpAll_same (sm_put np) (dpAll_app' da db), .inl (.inl (off_new lv np))⟩
  | false =>
    have hs : off H S a = some (.lst xs) := hs
    have ht : off H S b = some (.lst ys) := ht
    exact .inl ⟨a, b, xs, ys, rfl, rfl, at_off hs, at_off ht, by rw [lx, ly]; exact l, fun p np => q _ _ (same_upd np) ⟨p, _, rfl, dpAll_same (sm_put np) (dpAll_app' da db), off_new lv np⟩⟩
theorem ix_seqV {i : Nat} {d : PyData} (h : Dp K (off H S) x (seqD t ds)) (g : ds[i]? = some d) (q : ∀ y, Dp K (off H S) y d → Q y H) : rIxS' K x (.int (i : Nat)) H Q := by
  cases t with
  | true =>
    obtain ⟨a, xs, rfl, hs, da⟩ := dp_tup h
    have lx := dpAll_len da
    have hi : i < xs.length := by rw [lx]; exact (List.getElem?_eq_some_iff.mp g).1
    obtain ⟨d2, g2, dp⟩ := dpAll_at da (List.getElem?_eq_getElem hi)
    rw [g] at g2
    cases g2
    exact .inr ⟨a, xs, _, _, rfl, rfl, sqt_off hs, atI_nat (List.getElem?_eq_getElem hi), q _ dp⟩
  | false =>
    obtain ⟨a, xs, rfl, hs, da⟩ := dp_lst h
    have lx := dpAll_len da
    have hi : i < xs.length := by rw [lx]; exact (List.getElem?_eq_some_iff.mp g).1
    obtain ⟨d2, g2, dp⟩ := dpAll_at da (List.getElem?_eq_getElem hi)
    rw [g] at g2
    cases g2
    exact .inl ⟨a, xs, _, _, rfl, rfl, sq_off hs, atI_nat (List.getElem?_eq_getElem hi), q _ dp⟩
theorem len_seq (h : Dp K (off H S) x (seqD t ds)) : LenV K x H ds.length := by
  cases t with
  | true =>
    obtain ⟨a, xs, rfl, hs, da⟩ := dp_tup h
    rw [← dpAll_len da]
    exact .inr ⟨_, sqt_off hs, rfl⟩
  | false =>
    obtain ⟨a, xs, rfl, hs, da⟩ := dp_lst h
    rw [← dpAll_len da]
    exact .inl ⟨_, sq_off hs, rfl⟩
end
section
variable {n m C D W : Nat} {ds : List PyData}
theorem Bds.cut (h : Bds n m C D W ds) (lo hi : Option Int) : Bds n m C D W (cutL ds lo hi) := (h.drop _).take _
theorem Bd.seq {t : Bool} (h : Bd n m C D W (seqD t ds)) : Bds n m C (D - 1) W ds ∧ ds.length ≤ W := by
  obtain ⟨a, b, c, d⟩ := h.parts (seqD_or t ds)
  exact ⟨a.mono (Nat.le_refl _) (Nat.le_refl _) (Nat.sub_le _ _) (Nat.le_refl _) (Nat.le_refl _), b⟩
theorem Bds.seq {t : Bool} (h : Bds n m C D W ds) (l : ds.length ≤ W) : Bd n m (C + 3) (D + 1) W (seqD t ds) := by
  cases t
  · exact h.list l
  · exact h.tuple l
end
end Pot

namespace Pot
open PySem PySem.Spec PyProof.Rows L2
/-! ### sums of numbers and truths -/
def nB : V → Option Int
  | .int i => some i
  | .bl b => some (if b = true then 1 else 0)
  | _ => none
section
variable {X : Cx}
def rNL (g : Int → Int → V) : R2 := fun x y H Q => ∃ i j, nB x = some i ∧ y = .int j ∧ Q (g i j) H
def rNR (g : Int → Int → V) : R2 := fun x y H Q => ∃ i j, x = .int i ∧ nB y = some j ∧ Q (g i j) H
theorem op_addB : OpR X (binaryOp .Add) (rNL fun i j => .int (i + j)) := by
  intro pins s σ H x y v u Q I rx ry h
  obtain ⟨i, j, hx, rfl, q⟩ := h
  obtain ⟨t, rfl⟩ := ry
  cases x with
  | int k =>
    obtain ⟨t2, rfl⟩ := rx
    cases hx
    exact add_int ⟨.int _, H, I.tok _, ⟨_, rfl⟩, q⟩
  | bl b =>
    cases rx
    cases hx
    exact PySem.IntBool.add_bool_int ⟨.int _, H, I.tok _, ⟨_, rfl⟩, q⟩
  | _ => cases hx
theorem op_subB : OpR X (binaryOp .Sub) (rNL fun i j => .int (i - j)) := by
  intro pins s σ H x y v u Q I rx ry h
  obtain ⟨i, j, hx, rfl, q⟩ := h
  obtain ⟨t, rfl⟩ := ry
  cases x with
  | int k =>
    obtain ⟨t2, rfl⟩ := rx
    cases hx
    exact sub_int ⟨.int _, H, I.tok _, ⟨_, rfl⟩, q⟩
  | bl b =>
    cases rx
    cases hx
    exact PySem.IntBool.sub_bool_int ⟨.int _, H, I.tok _, ⟨_, rfl⟩, q⟩
  | _ => cases hx
theorem op_subR : OpR X (binaryOp .Sub) (rNR fun i j => .int (i - j)) := by
  intro pins s σ H x y v u Q I rx ry h
  obtain ⟨i, j, rfl, hy, q⟩ := h
  obtain ⟨t, rfl⟩ := rx
  cases y with
  | int k =>
    obtain ⟨t2, rfl⟩ := ry
    cases hy
    exact sub_int ⟨.int _, H, I.tok _, ⟨_, rfl⟩, q⟩
  | bl b =>
    cases ry
    cases hy
    exact PySem.IntBool.sub_int_bool ⟨.int _, H, I.tok _, ⟨_, rfl⟩, q⟩
  | _ => cases hy
/-- the text of a number or a truth -/
def tNB : V → Str
  | .int i => Str.ofString (toString i)
  | .bl b => if b then "True" else "False"
  | _ => ""
theorem call_strB : CallR X (.type "str") (fun xs H Q => ∃ x i, xs = [x] ∧ nB x = some i ∧ i.natAbs.log2 < 1920 ∧ Q (.str (tNB x)) H) := by
  intro pins s σ H xs us Q I r h
  obtain ⟨x, i, rfl, hx, hz, q⟩ := h
  obtain ⟨u, rfl, rx⟩ := vals1 r
  cases x with
  | int k =>
    obtain ⟨t, rfl⟩ := rx
    cases hx
    exact PySem.P.str_of_int hz ⟨.str _, H, I.tok _, ⟨_, rfl⟩, q⟩
  | bl b =>
    cases rx
    cases hx
    exact PySem.P.str_of_bool ⟨.str _, H, I.tok _, ⟨_, rfl⟩, q⟩
  | _ => cases hx
end
end Pot

namespace Pot
open PySem PySem.Spec PyProof.Rows L2
/-! ### a dict of the module with text keys, all of it -/
def kdR : Option V → Option Value → Prop
  | none, none => True
  | some v, some u => RelV v u
  | _, _ => False
def KdX (K : PySem.W.Frag) (w : World) (d : Addr) (f : Str → Option V) : Prop := ∃ es n, KDict K w d es n ∧ ∀ z, ∃ r, PySem.W.nsIn K d z = some r ∧ kdR (f z) r
section
variable {X : Cx} {K : PySem.W.Frag} {w : World} {d : Addr} {f : Str → Option V}
def rInX (d : Addr) (f : Str → Option V) : R2 := fun x y H Q => ∃ z : Str, x = .str z ∧ y = .ref d ∧ Q (.bl (f z).isSome) H
def rIxX (d : Addr) (f : Str → Option V) : R2 := fun x y H Q => ∃ (z : Str) (v : V), x = .ref d ∧ y = .str z ∧ f z = some v ∧ Q v H
theorem ko_inX (D : KdX K w d f) (hK : X.K = K := by rfl) (hw : X.w = w := by rfl) : OpR X (compareOp .In) (rInX d f) := by
  subst hK hw
  obtain ⟨es, n, D, F⟩ := D
  intro pins s σ H x y v u Q I rx ry h
  obtain ⟨z, rfl, rfl, q⟩ := h
  obtain ⟨r, e, k⟩ := F z
  have : (f z).isSome = r.isSome := by
    cases h1 : f z <;> cases h2 : r <;> rw [h1, h2] at k <;> first | rfl | exact k.elim
  rw [this] at q
  exact op_in_kd D pins s σ H _ _ v u Q I rx ry ⟨z, r, rfl, rfl, e, q⟩
theorem kx_kd (D : KdX K w d f) (hK : X.K = K := by rfl) (hw : X.w = w := by rfl) : IxR X (rIxX d f) := by
  subst hK hw
  obtain ⟨es, n, D, F⟩ := D
  intro value slice pins s σ H x y v u Q I rx ry h hs
  obtain ⟨z, v0, rfl, rfl, e0, q⟩ := h
  obtain ⟨r, e, k⟩ := F z
  rw [e0] at k
  cases r with
  | none => exact k.elim
  | some u0 =>
    cases rx
    obtain ⟨t, rfl⟩ := ry
    refine tail_any (kd_type D I) PySem.F.slot_dict_getitem.lookup ?_ hs
    exact wpAny_getItem_of (PySem.strKind_is X.prog X.w z t) (PySem.W.mapOf_K (prog := X.prog) I.kIn D.at_ D.lit) (PySem.W.find_K D.at_ e) ⟨v0, H, I.tok _, k, q⟩
end
end Pot

namespace Pot
open PySem PySem.Spec PyProof.Rows L2
theorem neg_bool {prog : Program} {w : World} {A : Around} {E : Value → Shared → Prop} {s : Shared} {b : Bool} {Q : Value → Shared → Prop} (h : Q (.int (-(if b = true then 1 else 0)) s.toks) { s with toks := s.toks + 1 }) : wpAny (model prog w) A (unaryOp .USub (.bool b)) Q E s := by
  unfold unaryOp
  refine wpAny_holding ?_
  refine wpAny_bind (m := callSpecial? (.bool b) (Str.ofString "__neg__")) (wpAny_callSpecial?_slot (name := Str.ofString "__neg__") (T := "bool") rfl PySem.F.slot_bool_neg
    (wpAny_call_entry PySem.F.slot_bool_neg (T := "bool") rfl PyProof.Rows.entry_int_neg ?_ (PyProof.Rows.args_int_neg _)))
  show wpAny _ _ (do ret (← mkInt (-(if b = true then 1 else 0)))) _ _ s
  exact wpAny_ret_mkInt (wpAny_pure h)
theorem un_negB {X : Cx} : UnR X (unaryOp .USub) (fun x H Q => ∃ i, nB x = some i ∧ Q (.int (-i)) H) := by
  intro pins s σ H x v Q I rx h
  obtain ⟨i, hx, q⟩ := h
  cases x with
  | int k =>
    obtain ⟨t, rfl⟩ := rx
    cases hx
    exact PySem.P.neg_int ⟨.int _, H, I.tok _, ⟨_, rfl⟩, q⟩
  | bl b =>
    cases rx
    cases hx
    exact neg_bool ⟨.int _, H, I.tok _, ⟨_, rfl⟩, q⟩
  | _ => cases hx
end Pot

namespace Pot
open PySem PySem.Spec PyProof.Rows L2 HT
/-! ### a tuple turned, t[::-1] -/
theorem sliceApplied_rev {prog : Program} {w : World} {A : Around} {E : Value → Shared → Prop} {s : Shared} {sl : Addr} {vs : Value} {n : Nat} {Q : Int × Int × Nat → Shared → Prop} (hs : s.heap.IsSliceOf sl .none .none vs) (ps : IsPart vs (some (-1)))
    (h : Q ((n : Int) - 1, -1, n) s) : wpAny (model prog w) A (Builtin.Slice.sliceApplied (.ref sl) (pure (n : Int))) Q E s := by
  obtain ⟨os, hos, hcs, hds⟩ := id hs
  unfold Builtin.Slice.sliceApplied Builtin.Slice.sliceFields
  refine wpAny_bind (wpAny_bind (wpAny_field hos hds (x := .none) rfl (wpAny_bind (wpAny_field hos hds (x := .none) rfl (wpAny_bind (wpAny_field hos hds (x := vs) rfl (wpAny_pure ?_)))))))
  refine wpAny_bind (slicePart_ ps ?_)
  show wpAny _ _ (if ((-1 : Int) == 0) = true then _ else _) _ _ s
  rw [if_neg (by decide)]
  refine wpAny_bind (slicePart_ .none (wpAny_bind (slicePart_ .none (wpAny_bind (wpAny_pure ?_)))))
  show wpAny _ _ (pure ((n : Int) - 1, (-1 : Int), Builtin.Slice.slicePlaces ((n : Int) - 1) (-1) (-1))) _ _ s
  have e : Builtin.Slice.slicePlaces ((n : Int) - 1) (-1) (-1) = n := by
    unfold Builtin.Slice.slicePlaces
    rw [if_neg (by decide)]
    by_cases z : (n : Int) - 1 > -1
    · rw [if_pos z]
      show (((n : Int) - 1 - -1 - 1) / 1 + 1).toNat = n
      rw [Int.ediv_one]
      omega
    · rw [if_neg z]
      have : n = 0 := by omega
      subst this; rfl
  rw [e]
  exact wpAny_pure h
theorem fm_congr {α β : Type} {f g : α → Option β} : ∀ {l : List α}, (∀ x ∈ l, f x = g x) → l.filterMap f = l.filterMap g
  | [], _ => rfl
  | x :: l, h => by
    rw [List.filterMap_cons, List.filterMap_cons, h x List.mem_cons_self, fm_congr fun y hy => h y (List.mem_cons_of_mem x hy)]
theorem pick_rev (xs : Array Value) : ((List.range xs.size).filterMap fun (k : Nat) => xs[((xs.size : Int) - 1 + (k : Int) * (-1)).toNat]?).toArray = xs.toList.reverse.toArray := by
  have := PySem.W.krv_pick xs
  rw [← this]
  unfold slicePick
  rw [PySem.W.krv_bounds]
  show _ = ((sliceRange ((xs.size : Int) - 1) (-1) (-1)).filterMap (xs[·]?)).toArray
  rw [PySem.W.krv_sliceRange, List.filterMap_map]
  congr 1
  refine fm_congr fun k hk => ?_
  have := List.mem_range.mp hk
  show xs[((xs.size : Int) - 1 + (k : Int) * (-1)).toNat]? = xs[xs.size - 1 - k]?
  rw [show ((xs.size : Int) - 1 + (k : Int) * (-1)).toNat = xs.size - 1 - k by omega]
theorem getItem_tuple_rev {prog : Program} {w : World} {A : Around} {E : Value → Shared → Prop} {s : Shared} {t sl : Addr} {items : Array Value} {vs : Value} {Q : Value → Shared → Prop} (ht : IsTup s.heap t items) (hs : s.heap.IsSliceOf sl .none .none vs) (ps : IsPart vs (some (-1)))
    (h : Q (.ref s.heap.objs.size) { s with heap := s.heap.push { cls := .type "tuple", data := .seq items.toList.reverse.toArray } })
    (hsz : items.size ≤ sizeLine) : wpAny (model prog w) A (getItem (.ref t) (.ref sl)) Q E s := by
  have htake : sizeOk (.seq items.toList.reverse.toArray) := by
    show items.toList.reverse.toArray.size ≤ sizeLine
    rw [List.size_toArray, List.length_reverse, Array.length_toList]
    exact hsz
  obtain ⟨os, hos, hcs, hds⟩ := id hs
  have hTs : s.TypeIs (.ref sl) "slice" := ⟨os, hos, hcs⟩
  unfold getItem
  try with_reducible refine wpAny_holding ?_
  first | refine wpAny_bind (wpAny_pure ?_) | skip
  refine wpAny_bind (wpAny_sequenceKey ht.typeIs (by decide) ?_)
  refine wpAny_bind (wpAny_callSpecial?_slot (name := Str.ofString "__getitem__") ht.typeIs PyProof.Rows.slot_tuple_getitem
    (wpAny_call_entry PyProof.Rows.slot_tuple_getitem ht.typeIs entry_tuple_getitem ?_ (args_tuple_getitem _ _)))
  show wpAny _ _ (Builtin.Tuple.tupleItemsOf (.ref t) >>= _) _ _ s
  refine wpAny_bind (tupleItemsOf_ ht ?_)
  refine wpAny_bind (wpAny_typeOf hTs ?_)
  rw [if_pos (by decide)]
  refine wpAny_bind (sliceApplied_rev hs ps ?_)
  have hno : ¬ ((((items.size : Int) - 1) == 0 && (-1 : Int) == 1 && items.size == items.size) = true) := by
    intro q
    rw [Bool.and_eq_true, Bool.and_eq_true] at q
    have := q.1.2
    revert this; decide
  show wpAny _ _ (if (((items.size : Int) - 1) == 0 && (-1 : Int) == 1 && items.size == items.size) = true then _ else _) _ _ s
  rw [if_neg hno, pick_rev]
  first
    | exact wpAny_bind (m := Builtin.Tuple.tupleExact _) (wpAny_newObj_type (wpAny_pure ⟨_, rfl, wpAny_pure h⟩) htake)
    | exact wpAny_bind (m := Builtin.Tuple.tupleExact _) (wpAny_newObj_type (wpAny_bind (wpAny_pure (wpAny_pure ⟨_, rfl, wpAny_pure h⟩))) htake)
    | exact wpAny_bind (wpAny_bind (m := Builtin.Tuple.tupleExact _) (wpAny_newObj_type (wpAny_pure (wpAny_pure ⟨_, rfl, wpAny_pure h⟩)) htake))
    | exact wpAny_bind (wpAny_bind (m := Builtin.Tuple.tupleExact _) (wpAny_newObj_type (wpAny_pure ⟨_, rfl, wpAny_pure h⟩) htake))
def tRevT (K : PySem.W.Frag) (te : TE) : TE := fun σ H Q => te σ H fun x H1 => ∃ a xs, x = .ref a ∧ SqT K H1 a xs ∧ ∀ p, H1 p = none → Q (.ref p) (upd H1 p (.tup xs.reverse))
theorem pe_revT0 {X : Cx} {e : Expr} {te : TE} {k : Nat} {p1 p2 p3 pos : Pos} (he : PE X e te) : PE X (.Subscript e (.Slice none none (some (.UnaryOp .USub (.Constant (.int 1) k p1) p2)) p3) pos) (tRevT X.K te) := by
  refine ⟨fun pins s σ H Q I h => ?_⟩
  refine Subscript_ (thn (he.run pins s σ H _ I h) fun v s1 ⟨x, H1, I1, r1, q1⟩ => ?_)
  obtain ⟨a, xs, ex, hx, q⟩ := q1
  subst ex
  cases r1
  have hst : PO X (some (.UnaryOp .USub (.Constant (.int 1) k p1) p2)) (tPart (tUn (rU fun i => .int (-i)) (tC (.int 1)))) := po_some (pe_un un_neg pe_int)
  refine wpAny_Slice (thn (po_none.run pins s1 σ H1 (fun o H2 => o = none ∧ H2 = H1) I1 ⟨rfl, rfl⟩) fun vl s2 ⟨l, H2, I2, pl, el, e2⟩ => ?_)
  subst el e2
  refine thn (po_none.run pins s2 σ H2 (fun o H3 => o = none ∧ H3 = H2) I2 ⟨rfl, rfl⟩) fun vu s3 ⟨u, H3, I3, pu, eu, e3⟩ => ?_
  subst eu e3
  refine thn (hst.run pins s3 σ H3 (fun o H4 => o = some (-1) ∧ H4 = H3) I3 ⟨1, rfl, -1, rfl, rfl, rfl⟩) fun vs s4 ⟨o, H4, I4, ps, eo, e4⟩ => ?_
  subst eo e4
  cases pl
  cases pu
  have I5 : Inv X pins σ H4 { s4 with heap := s4.heap.push { cls := .type "slice", data := .fields #[.none, .none, vs] } } := I4.kept (t' := s4.toks) fun b ob q => Heap.get?_push_of_some _ q
  obtain ⟨its, r, ht, hz⟩ := I5.tuple hx
  have hlen := r.length
  show wpAny (model X.prog X.w) X.A (subscriptTail e (.Slice none none (some (.UnaryOp .USub (.Constant (.int 1) k p1) p2)) p3) (.ref a) (.ref s4.heap.objs.size)) (EP X pins σ Q) X.xe { s4 with heap := s4.heap.push { cls := .type "slice", data := .fields #[.none, .none, vs] } }
  refine tail_any (ops := [.ref a, .ref s4.heap.objs.size]) ht.typeIs (PyProof.Rows.slot_tuple_getitem.lookup) ?_ (by with_unfolding_all rfl)
  refine getItem_tuple_rev ht (Heap.IsSliceOf.new _ .none .none vs) ps ?_ (by rw [List.size_toArray]; omega)
  refine ⟨.ref _, _, I5.laid (t' := s4.toks) (o := .tup xs.reverse) (fun b ob q => Heap.get?_push_of_some _ q) (Nat.le_refl _) ?_, rfl, q _ (I5.hok.fresh (Nat.le_refl _))⟩
  exact ⟨by rw [List.length_reverse]; exact hz, _, r.reverse, IsTup.new _ _⟩
theorem pe_revT {X : Cx} {K : PySem.W.Frag} {e : Expr} {te : TE} {k : Nat} {p1 p2 p3 pos : Pos} (he : PE X e te) (h : X.K = K := by rfl) : PE X (.Subscript e (.Slice none none (some (.UnaryOp .USub (.Constant (.int 1) k p1) p2)) p3) pos) (tRevT K te) := h ▸ pe_revT0 he
end Pot

namespace Pot
open PySem PySem.Spec PyProof.Rows L2
def topS (i : Nat) : Stmt := PySem.Challenge.pw_potround_k54_what_deeds_are.main.body.getD i (.Pass ⟨0, 0, 0, 0⟩)
section
variable {P : Program} {w : World} {K : PySem.W.Frag} {mg : Str → Option Value} {base : Heap}
theorem cmul_mz (a b : Int) {m z : Int} (h0 : 0 < m) (h1 : m < 2 ^ 62) (z0 : 0 ≤ z) (z1 : z < 2 ^ 41) : CMul (a % m + z) b := by
  have p := Int.emod_nonneg a (show m ≠ 0 by omega)
  have q := Int.emod_lt_of_pos a h0
  exact .inl ⟨by omega, by omega⟩
abbrev s__law_take : Stmt := topS 13
def n__law_take : List Str := ["_law_box", "_law_many", "_law_found", "_law_once", "_law_twice", "_law_wide"]
theorem sc__law_take : FnScope n__law_take ["_law_box", "_law_many"] (defScope s__law_take) := ⟨rfl, rfl, rfl, by decide +kernel, rfl, by decide +kernel, by decide +kernel⟩
/-! ### _law_take -/
def spTake : Sp := fun vs H Q _ => ∃ (b : Addr) (m : Int) (n : Nat), vs = [.ref b, .int m] ∧ 0 < m ∧ m < 1073741824 ∧ Bp H b n ∧ n < 2 ^ 40 ∧
  ∀ H' r, 0 ≤ r → r < m → Bp H' b (n + 1) → Sm [b] H H' → Q (.int r) H'
theorem ok_take {f : Addr} {fd : FuncData} {k : Nat} (F : Fun K "_law_take" "_law_take" s__law_take f fd) (T : Txt mg) :
    FnOk P w K mg base CX0 (k + 1) f fd ["_law_box", "_law_many"] spTake := by
  refine F.ok sc__law_take (fun vs H Q E h => ?_) (fun cdv A outer s H vs Q E hr h => ?_)
  · obtain ⟨b, m, n, rfl, _⟩ := h
    rfl
  · obtain ⟨b, m, n, rfl, hm0, hm1, ⟨x, y, z, B, z0, zn, y0, y1⟩, hn, q⟩ := h
    have nd := sc__law_take.nd
    refine ⟨_, (pss_cons (ps_if (pt_cmpR op_gt (pe_ix (kx_list (K := K)) (pv 0) pe_int (fun _ _ => rfl)) pe_int (nomark _))
          (pss_cons (ps_asg (pe_callB call_divmod (by rfl) T.divmod (by decide +kernel) (pa_cons (pe_ix (kx_list (K := K)) (pv 0) pe_int (fun _ _ => rfl)) (pa_cons (pv 1) pa_nil))) (kg_tup (K := K) (n := 2) (pgs_cons (pg_sub (pv 0) pe_int set_list) (pgs_cons (pg_name (i := 2) nd rfl (.inl rfl)) pgs_nil))))
          (pss_one (ps_ret (pv 2))))
          pss_nil)
      (pss_cons (ps_asg (pe_op op_add (pe_ix (kx_list (K := K)) (pv 0) pe_int (fun _ _ => rfl)) pe_int) (pg_sub (pv 0) pe_int set_list))
      (pss_cons (ps_set (i := 3) nd rfl (.inl rfl) (pe_op op_mod (pe_op op_pow (pe_op op_add (pe_ix (kx_list (K := K)) (pv 0) pe_int (fun _ _ => rfl)) (pe_op op_mul pe_int (pe_ix (kx_list (K := K)) (pv 0) pe_int (fun _ _ => rfl)))) pe_int) pe_int))
      (pss_cons (ps_set (i := 4) nd rfl (.inl rfl) (pe_op op_mod (pe_op op_mul (pe_op op_add (pv 3) (pe_ix (kx_list (K := K)) (pv 0) pe_int (fun _ _ => rfl))) (pe_op op_add (pe_op op_add (pe_op op_mod (pv 3) pe_int) pe_int) (pe_ix (kx_list (K := K)) (pv 0) pe_int (fun _ _ => rfl)))) pe_int))
      (pss_cons (ps_set (i := 5) nd rfl (.inl rfl) (pe_op op_mod (pe_op op_add (pe_op op_add (pe_op op_fdivW (pe_ix (kx_list (K := K)) (pv 0) pe_int (fun _ _ => rfl)) pe_int) (pe_op op_mul (pv 4) pe_int)) (pe_ix (kx_list (K := K)) (pv 0) pe_int (fun _ _ => rfl))) pe_int))
      (pss_one (ps_ret (pe_op op_mod (pe_op op_fdiv (pe_op op_mod (pe_op op_add (pe_op op_add (pe_op op_mul (pv 4) pe_int) (pe_op op_mul (pv 5) pe_int)) (pv 3)) pe_int) pe_int) (pv 1))))))))), ?_⟩
    refine ⟨_, rfl, b, _, 0, .int x, rfl, rfl, SqL.of B, rfl, _, _, rfl, rfl, _, rfl, ite2 (fun hb => ?_) (fun hb => ?_)⟩
    · refine ⟨_, rfl, b, _, 0, .int x, rfl, rfl, SqL.of B, rfl, _, rfl, _, _, rfl, ⟨hm0, hm1⟩, fun p np => ?_⟩
      have nb : b ≠ p := ne_of_none B np
      have B1 : upd H p (.tup [.int (x / m), .int (x % m)]) b = some (.lst [.int x, .int y, .int z]) := by rw [upd_ne nb]; exact B
      refine ⟨p, _, rfl, .inl (.inl upd_same), rfl, _, _, rfl, _, rfl, b, _, 0, 0, rfl, rfl, B1, rfl, ?_⟩
      refine ⟨_, _, rfl, rfl, _, rfl, ?_⟩
      exact q _ _ (Int.emod_nonneg _ (by omega)) (Int.emod_lt_of_pos _ hm0) ⟨_, _, _, upd_same, z0, by omega, y0, y1⟩ ((sm_put np).trans (sm_wr List.mem_cons_self))
    · refine ⟨_, rfl, b, _, 2, .int z, rfl, rfl, SqL.of B, rfl, _, _, rfl, rfl, _, rfl, b, _, 2, 2, rfl, rfl, B, rfl, ?_⟩
      have B2 : upd H b (.lst [.int x, .int y, .int (z + 1)]) b = some (.lst [.int x, .int y, .int (z + 1)]) := upd_same
      have s2 : Sm [b] H (upd H b (.lst [.int x, .int y, .int (z + 1)])) := sm_wr List.mem_cons_self
      show tSeq _ _ _ _ (upd H b (.lst [.int x, .int y, .int (z + 1)]))
      generalize upd H b (.lst [.int x, .int y, .int (z + 1)]) = H2 at B2 s2 ⊢
      have t2 : z + 1 < 2 ^ 41 := by omega
      refine ⟨_, rfl, b, _, 1, .int y, rfl, rfl, SqL.of B2, rfl, _, rfl, b, _, 2, .int (z + 1), rfl, rfl, SqL.of B2, rfl, _, _, rfl, rfl, .inr ⟨by omega, by omega⟩, _, _, rfl, rfl, _, _, rfl, rfl, ⟨by decide, by decide, by omega⟩, _, _, rfl, rfl, (by show (0 : Int) < 2147483647; decide), ?_⟩
      refine ⟨_, rfl, _, rfl, b, _, 2, .int (z + 1), rfl, rfl, SqL.of B2, rfl, _, _, rfl, rfl, _, rfl, _, _, rfl, rfl, (by show (0 : Int) < 40009; decide), _, _, rfl, rfl, _, rfl, b, _, 2, .int (z + 1), rfl, rfl, SqL.of B2, rfl, _, _, rfl, rfl, _, _, rfl, rfl, cmul_mz _ _ (by decide) (by decide) (by omega) t2, _, _, rfl, rfl, (by show (0 : Int) < 2147483629; decide), ?_⟩
      refine ⟨_, rfl, b, _, 1, .int y, rfl, rfl, SqL.of B2, rfl, _, _, rfl, rfl, CDivW.of (by decide) (by decide), _, rfl, _, _, rfl, rfl, .inr ⟨by decide, by decide⟩, _, _, rfl, rfl, _, rfl, b, _, 2, .int (z + 1), rfl, rfl, SqL.of B2, rfl, _, _, rfl, rfl, _, _, rfl, rfl, (by show (0 : Int) < 2305843009213693951; decide), ?_⟩
      refine ⟨_, rfl, _, _, rfl, rfl, .inr ⟨by decide, by decide⟩, _, rfl, _, _, rfl, rfl, .inr ⟨by decide, by decide⟩, _, _, rfl, rfl, _, rfl, _, _, rfl, rfl, _, _, rfl, rfl, (by show (0 : Int) < 2305843009213693921; decide), _, _, rfl, rfl, ⟨by decide, by decide⟩, _, rfl, _, _, rfl, rfl, hm0, ?_⟩
      exact q _ _ (Int.emod_nonneg _ (by omega)) (Int.emod_lt_of_pos _ hm0) ⟨_, _, _, B2, by omega, by omega, y0, y1⟩ s2

abbrev s__law_draws : Stmt := topS 12
def n__law_draws : List Str := ["_law_script", "_law_k", "_law_cell"]
theorem sc__law_draws : FnScope n__law_draws ["_law_script", "_law_k"] (defScope s__law_draws) := ⟨rfl, rfl, rfl, by decide +kernel, rfl, by decide +kernel, by decide +kernel⟩
theorem cmul_abs (i : Int) (b : Bool) : CMul i (if b = true then 1 else 0) := .inr (by cases b <;> decide)
def spDraws (K : PySem.W.Frag) : Sp := fun vs H Q _ => ∃ (c : Addr) (ns : List Int) (i : Nat), vs = [.ref c, .int (i : Nat)] ∧ SqL K H c (ns.map V.int) ∧ i < ns.length ∧ i < 1000 ∧
  ∀ H' p, Same H H' → H p = none → Bp H' p 0 → Q (.ref p) H'
theorem ok_draws {f : Addr} {fd : FuncData} {k : Nat} (F : Fun K "_law_draws" "_law_draws" s__law_draws f fd) (T : Txt mg) : FnOk P w K mg base CX0 (k + 1) f fd ["_law_script", "_law_k"] (spDraws K) := by
  refine F.ok sc__law_draws (fun vs H Q E h => ?_) (fun cdv A outer s H vs Q E hr h => ?_)
  · obtain ⟨c, ns, i, rfl, _⟩ := h
    rfl
  · obtain ⟨c, ns, i, rfl, hS, hi, hi1, q⟩ := h
    have nd := sc__law_draws.nd
    have e : (ns.map V.int)[i]? = some (.int ns[i]) := by rw [List.getElem?_map, List.getElem?_eq_getElem hi]; rfl
    refine ⟨_, (pss_cons (ps_set (i := 2) nd rfl (.inl rfl) (pe_ifExp (pt_cmpR op_lt (pv 1) (pe_callB (kc_len (K := K)) (by rfl) T.len PySem.boot_len (pa_cons (pv 0) pa_nil)) (nomark _)) (pe_ix (kx_list (K := K)) (pv 0) (pv 1) (fun _ _ => rfl)) pe_int))
      (pss_one (ps_ret (pe_lst (pa_cons (pe_op op_mul (pe_callB call_abs (by rfl) T.abs (by decide +kernel) (pa_cons (pv 2) pa_nil)) (pe_callTy call_int1 (by rfl) T.int (by decide +kernel) (pa_cons (pe_cmpR op_ge (pe_callB call_abs (by rfl) T.abs (by decide +kernel) (pa_cons (pv 2) pa_nil)) (pe_op op_pow pe_int pe_int) (nomark _)) pa_nil))) (pa_cons (pe_op op_add (pe_op op_add (pe_op op_mod (pv 2) pe_int) (pe_op op_mul pe_int (pv 1))) pe_int) (pa_cons pe_int pa_nil))))))), ?_⟩
    refine ⟨_, rfl, _, rfl, _, _, rfl, .inl ⟨_, hS, rfl⟩, _, _, rfl, rfl, _, rfl, ite2 (fun hb => ?_) (fun hb => ?_)⟩
    · refine ⟨_, rfl, _, rfl, c, _, _, _, rfl, rfl, hS, atI_nat e, ?_⟩
      refine ⟨_, rfl, _, rfl, _, rfl, _, rfl, _, _, rfl, rfl, ⟨by decide, by decide, by decide⟩, _, _, rfl, rfl, .inr ⟨_, rfl, _, _, rfl, rfl, cmul_abs _ _, ?_⟩⟩
      refine ⟨_, rfl, _, _, rfl, rfl, (by show (0 : Int) < 2305843009213693951; decide), _, rfl, _, _, rfl, rfl, .inl ⟨by decide, by decide⟩, _, _, rfl, rfl, _, _, rfl, rfl, (by show 3 ≤ sizeLine; decide), fun p hp => ?_⟩
      have m0 : 0 ≤ ns[i] % 2305843009213693951 := Int.emod_nonneg _ (by decide)
      have m1 : ns[i] % 2305843009213693951 < 2305843009213693951 := Int.emod_lt_of_pos _ (by decide)
      exact q _ p (same_upd hp) hp ⟨_, _, _, upd_same, Int.le_refl _, Int.le_refl _, by omega, by omega⟩
    · exact absurd (decide_eq_true (by rw [List.length_map]; omega)) hb
abbrev s__law_folded : Stmt := topS 11
def n__law_folded : List Str := ["_law_script", "_law_many", "_law_cells", "_law_k", "_law_cell"]
theorem sc__law_folded : FnScope n__law_folded ["_law_script", "_law_many"] (defScope s__law_folded) := ⟨rfl, rfl, rfl, by decide +kernel, rfl, by decide +kernel, by decide +kernel⟩
def spFolded (K : PySem.W.Frag) : Sp := fun vs H Q _ => ∃ (a : Addr) (ns : List Int), vs = [.ref a, .int 6] ∧ SqL K H a (ns.map V.int) ∧ ns.length ≤ 63 ∧
  ∀ (H' : Hp) (p : Addr) (ms : List Int), Same H H' → H p = none → H' p = some (.lst (ms.map V.int)) → 1 ≤ ms.length → ms.length ≤ 6 → Q (.ref p) H'
theorem ok_folded {f : Addr} {fd : FuncData} {k : Nat} (F : Fun K "_law_folded" "_law_folded" s__law_folded f fd) (T : Txt mg) : FnOk P w K mg base CX0 (k + 1) f fd ["_law_script", "_law_many"] (spFolded K) := by
  refine F.ok sc__law_folded (fun vs H Q E h => ?_) (fun cdv A outer s H vs Q E hr h => ?_)
  · obtain ⟨a, ns, rfl, _⟩ := h
    rfl
  · obtain ⟨a, ns, rfl, hS, h63, q⟩ := h
    have nd := sc__law_folded.nd
    have hu64 := hr.units
    refine ⟨_, (pss_cons (ps_set (i := 2) nd rfl (.inl rfl) (pe_callTy (kc_list (K := K)) (by rfl) T.list (by decide +kernel) (pa_cons (pe_slice (kl_list (K := K)) (pv 0) po_none (po_some (pv 1))) pa_nil)))
      (pss_cons (ps_for PassesOwn.never rfl (ki_enum (K := K) (by rfl) T.enumerate (pa_cons (pe_slice (kl_list (K := K)) (pv 0) (po_some (pv 1)) (po_some pe_int)) pa_nil)) (kg_tup (K := K) (n := 2) (pgs_cons (pg_name (i := 3) nd rfl (.inl rfl)) (pgs_cons (pg_name (i := 4) nd rfl (.inl rfl)) pgs_nil)))
          (pss_one (ps_asg (pe_op op_add (pe_ix (kx_list (K := K)) (pv 2) (pe_op op_mod (pv 3) (pv 1)) (fun _ _ => rfl)) (pe_op op_mul (pv 4) (pe_op op_add (pv 3) pe_int))) (pg_sub (pv 2) (pe_op op_mod (pv 3) (pv 1)) set_list))))
      (pss_one (ps_ret (pe_ifExp (pt_cmpR (ko_ne (K := K) hu64) (pv 2) (pe_lst pa_nil) (nomark _)) (pv 2) (pe_lst (pa_cons pe_int pa_nil))))))), ?_⟩
    refine ⟨_, rfl, _, rfl, 6, rfl, a, _, rfl, hS, fun p1 n1 => ?_⟩
    rw [show cutV (ns.map V.int) none (some 6) = (ns.take 6).map V.int by rw [show (6 : Int) = ((6 : Nat) : Int) from rfl, cut_head, List.map_take]]
    refine ⟨p1, _, rfl, .inl (SqL.of upd_same), fun c nc => ?_⟩
    have s1 : Same H (upd (upd H p1 (.lst ((ns.take 6).map V.int))) c (.lst ((ns.take 6).map V.int))) := (same_upd n1).trans (same_upd nc)
    have nc : H c = none := (same_upd n1).free nc
    obtain ⟨ms, em⟩ : ∃ ms, ms = ns.take 6 := ⟨_, rfl⟩
    have l2 : ms.length ≤ 6 := by rw [em, List.length_take]; omega
    have l3 : 6 < ns.length → ms.length = 6 := fun h => by rw [em, List.length_take]; omega
    rw [← em] at s1 ⊢
    have hc : upd (upd H p1 (.lst (ms.map V.int))) c (.lst (ms.map V.int)) c = some (.lst (ms.map V.int)) := upd_same
    generalize upd (upd H p1 (.lst (ms.map V.int))) c (.lst (ms.map V.int)) = H2 at s1 hc ⊢
    have s2 := s1
    refine ⟨_, rfl, _, rfl, 6, rfl, 63, rfl, a, _, rfl, s2.seq hS, fun e ne => ?_⟩
    have ee : upd H2 e (.lst (cutV (ns.map V.int) (some 6) (some 63))) e = some (.lst (cutV (ns.map V.int) (some 6) (some 63))) := upd_same
    have s3 := same_upd (o := .lst (cutV (ns.map V.int) (some 6) (some 63))) ne
    have ce : c ≠ e := ne_of_none hc ne
    have hc := s3 _ _ hc
    have s2 := s2.trans s3
    generalize upd H2 e (.lst (cutV (ns.map V.int) (some 6) (some 63))) = H3 at ee s2 hc ⊢
    rw [cut_map] at ee
    have lcut : ((ns.drop (HT.sIx ns.length 0 (some 6))).take (HT.sIx ns.length ns.length (some 63) - HT.sIx ns.length 0 (some 6))).length ≤ ns.length - 6 := by
      rw [show HT.sIx ns.length 0 (some 6) = min 6 ns.length from HT.sIx_nat _ _ 6, List.length_take, List.length_drop]
      omega
    generalize (ns.drop (HT.sIx ns.length 0 (some 6))).take (HT.sIx ns.length ns.length (some 63) - HT.sIx ns.length 0 (some 6)) = es at ee lcut
    refine ⟨e, _, rfl, SqL.of ee, ?_⟩
    refine for_it (walk_enum (xs := es.map V.int)) (fun i σ H4 => ∃ v3 v4 ms, σ = [some (.ref a), some (.int 6), some (.ref c), v3, v4] ∧ Same H H4 ∧ H4 e = some (.lst (es.map V.int)) ∧ H4 c = some (.lst (ms.map V.int)) ∧ ms.length ≤ 6 ∧ (6 < ns.length → ms.length = 6))
      ⟨none, none, ms, rfl, s2, ee, hc, l2, l3⟩ (fun i σ H4 _ h => by obtain ⟨_, _, _, _, _, h, _⟩ := h; exact SqL.of h) ?_ ?_
    · rintro i x σ H4 H5 hi ⟨v3, v4, ms, rfl, s4, e4, c4, l2, l3⟩ ⟨t, x1, x2, rfl, nt, rfl, g1, g2⟩
      cases g1
      replace g2 : (es.map V.int)[i]? = some x2 := g2
      rw [List.getElem?_map] at g2
      obtain ⟨y, gy, rfl⟩ := Option.map_eq_some_iff.mp g2
      rw [List.length_map] at hi
      have lm : ms.length = 6 := l3 (by omega)
      have s5 := same_upd (o := .tup [.int (i : Nat), .int y]) nt
      refine ⟨t, _, rfl, .inl (.inl upd_same), rfl, _, _, rfl, _, _, rfl, rfl, ?_⟩
      have e5 := s5 _ _ e4
      have c5 := s5 _ _ c4
      have s5 := s4.trans s5
      generalize upd H4 t (.tup [.int (i : Nat), .int y]) = H6 at e5 c5 s5 ⊢
      have em : ((i : Nat) : Int) % 6 = ((i % 6 : Nat) : Int) := by omega
      have lt : i % 6 < ms.length := by omega
      have ga : (ms.map V.int)[i % 6]? = some (.int ms[i % 6]) := by rw [List.getElem?_map, List.getElem?_eq_getElem lt]; rfl
      refine ⟨_, rfl, _, rfl, _, rfl, _, _, rfl, rfl, (by show (0 : Int) < 6; decide), c, _, _, _, rfl, rfl, SqL.of c5, (by rw [em]; exact atI_nat ga), ?_⟩
      refine ⟨_, rfl, _, rfl, _, _, rfl, rfl, _, _, rfl, rfl, .inr ⟨by omega, by omega⟩, _, _, rfl, rfl, ?_⟩
      refine ⟨_, rfl, _, rfl, _, rfl, _, _, rfl, rfl, (by show (0 : Int) < 6; decide), c, _, _, i % 6, rfl, rfl, c5, (by rw [em, List.length_map]; exact Evl.ixN_nat lt), ?_⟩
      refine ⟨_, _, ms.set (i % 6) (ms[i % 6] + y * ((i : Nat) + 2)), rfl, same_put s5 nc, (by rw [upd_ne ce.symm]; exact e5), (by rw [upd_same, List.map_set]), ?_, ?_⟩
      · rw [List.length_set]; exact l2
      · rw [List.length_set]; exact l3
    · rintro σ H4 ⟨v3, v4, ms, rfl, s4, e4, c4, l2, l3⟩
      refine ⟨_, rfl, Nat.zero_le _, fun t nt => ?_⟩
      have s5 := same_upd (o := .lst []) nt
      have f5 : upd H4 t (.lst []) t = some (.lst []) := upd_same
      have c5 := s5 _ _ c4
      have s5 := s4.trans s5
      generalize upd H4 t (.lst []) = H5 at c5 s5 f5 ⊢
      refine ⟨.list (ms.map .int), .list [], .lst (SqL.of c5) (dp_ints ms), .lst (SqL.of f5) .nil, PySem.W.ke_shaped_ints ms, PySem.W.ke_shaped_ints [], _, rfl, ?_⟩
      by_cases e : ms = []
      · subst e
        refine iteF ⟨(by show 1 ≤ sizeLine; decide), fun p np => ?_⟩
        exact q _ p [0] (s5.trans (same_upd np)) (s5.free np) upd_same (by decide) (by decide)
      · have e2 : (!PyData.eqv (.list (ms.map .int)) (.list [])) = true := by
          cases ms with
          | nil => exact absurd rfl e
          | cons _ _ => rfl
        rw [e2]
        exact iteT ⟨_, rfl, q _ c ms s5 nc c5 (List.length_pos_iff.mpr e) l2⟩

end
end Pot

namespace Pot
open PySem PySem.Spec PyProof.Rows L2
section
variable {P : Program} {w : World} {K : PySem.W.Frag} {mg : Str → Option Value} {base : Heap}
def abc : Str := "abcdefghijklmnopqrstuvwxyz"
def Let (mg : Str → Option Value) : Prop := ∃ t, mg "LETTERS" = some (.str abc t)
def nameD : PyData → Bool
  | .str z => decide ((1 : Int) ≤ (z.length : Nat)) && (decide (((z.length : Nat) : Int) ≤ 8) && z.cps.toList.all fun c => decide (c ∈ abc.cps.toList))
  | _ => false
abbrev s_is_name : Stmt := topS 4
def n_is_name : List Str := ["thing", "sign"]
theorem sc_is_name : FnScope n_is_name ["thing"] (defScope s_is_name) := ⟨rfl, rfl, rfl, by decide +kernel, rfl, by decide +kernel, by decide +kernel⟩
def spName (K : PySem.W.Frag) : Sp := fun vs H Q _ => ∃ (x : V) (d : PyData) (m : Nat), vs = [x] ∧ Dp K H x d ∧ gd m d ∧ ∀ H', Same H H' → Q (.bl (nameD d)) H'
theorem ok_name {f : Addr} {fd : FuncData} {k : Nat} (F : Fun K "is_name" "is_name" s_is_name f fd) (T : Txt mg) (L : Let mg) : FnOk P w K mg base CX0 (k + 1) f fd ["thing"] (spName K) := by
  refine F.ok sc_is_name (fun vs H Q E h => ?_) (fun cdv A outer s H vs Q E hr h => ?_)
  · obtain ⟨x, d, m, rfl, _⟩ := h
    rfl
  · obtain ⟨x, d, m, rfl, dp, hg, q⟩ := h
    obtain ⟨tL, hL⟩ := L
    have nd := sc_is_name.nd
    refine ⟨_, (pss_one (ps_ret (pe_and (pe_callB (kc_isi (K := K)) (by rfl) T.isinstance (by decide +kernel) (pa_cons (pv 0) (pa_cons (pe_bltn (v := .ty "str") (by rfl) T.str (by decide +kernel) rfl) pa_nil))) (pe_and (pe_chain op_le op_le pe_int (pe_callB (kc_len (K := K)) (by rfl) T.len PySem.boot_len (pa_cons (pv 0) pa_nil)) pe_int) (pe_one (pe_callB (kc_all (K := K)) (by rfl) T.all (by decide +kernel) (pa_cons (pe_lc (own := [("sign", 1)]) rfl nd (pi_str (pv 0)) (blkOk_by (N := n_is_name) (sc := defScope s_is_name) (by decide +kernel)) (fun _ _ _ _ _ => (pg_name (i := 1) nd rfl (.inl rfl))) (fun _ _ _ _ _ => pts_nil) (fun _ _ _ _ _ => (pe_cmpR op_in_sign (pv 1) (pe_glob (v := .str abc) (by rfl) hL ⟨tL, rfl⟩) rfl))) pa_nil))))))), ?_⟩
    refine ⟨_, rfl, _, .ty _, _, _, isStrD _, rfl, .ty _, tyx_dp dp, kit_str dp, _, rfl, ?_⟩
    cases dp with
    | str z =>
      refine iteT ?_
      have hz : z.length ≤ 2000 := hg.1
      have hcs : z.cps.toList.length = z.cps.size := Array.length_toList
      have lz : z.cps.size ≤ 2000 := hz
      refine ⟨_, rfl, _, _, rfl, ⟨by rw [sizeLine_eq]; omega, rfl⟩, _, _, rfl, rfl, _, rfl, ite2 (fun h1 => ?_) (fun h1 => ?_)⟩
      · refine ⟨_, _, rfl, rfl, _, rfl, ite2 (fun h2 => ?_) (fun h2 => ?_)⟩
        · have e0 : nameD (.str z) = z.cps.toList.all fun c => decide (c ∈ abc.cps.toList) := by
            show (decide _ && (decide _ && _)) = _
            rw [h1, h2]; rfl
          refine ⟨_, rfl, z, rfl, fun D nD => ?_⟩
          refine lc_it (walk_str (z := z)) (PvL H D fun i => ((z.cps.toList.map fun c => decide (c ∈ abc.cps.toList)).take i).map V.bl) (pv_start nD rfl) (fun _ _ _ _ => trivial) ?_ ?_
          · rintro i x H4 H5 hi p ⟨rfl, c, gc, rfl⟩
            refine ⟨rfl, tYes_at ?_⟩
            rw [if_pos rfl]
            refine ⟨_, rfl, c, _, rfl, rfl, ?_⟩
            exact pv_put nD p (Same.refl _) (take_map V.bl (by rw [List.getElem?_map, Array.getElem?_toList, gc]; rfl)) (take_len_le (by rw [List.length_map, hcs]; omega))
          · intro H4 p
            obtain ⟨s4, hD⟩ := pv_end p (take_all (by rw [List.length_map, hcs]; exact Nat.le_refl _))
            refine ⟨D, _, rfl, SqL.of hD, ?_⟩
            have ea : (z.cps.toList.map fun c => decide (c ∈ abc.cps.toList)).all id = z.cps.toList.all fun c => decide (c ∈ abc.cps.toList) := by rw [List.all_map]; rfl
            rw [ea]
            rw [e0] at q
            exact q _ s4
        · have e0 : nameD (.str z) = false := by
            show (decide _ && (decide _ && _)) = _
            rw [h1, Bool.not_eq_true _ |>.mp h2]; rfl
          rw [e0] at q
          exact q _ (Same.refl _)
      · have e0 : nameD (.str z) = false := by
          show (decide _ && (decide _ && _)) = _
          rw [Bool.not_eq_true _ |>.mp h1]; rfl
        rw [e0] at q
        exact ⟨_, rfl, iteF (q _ (Same.refl _))⟩
    | int _ => exact iteF (q _ (Same.refl _))
    | bl b => exact iteF (q _ (Same.refl _))
    | non => exact iteF (q _ (Same.refl _))
    | lst _ _ => exact iteF (q _ (Same.refl _))
    | tup _ _ => exact iteF (q _ (Same.refl _))
def spNumD (K : PySem.W.Frag) : Sp := fun vs H Q _ => ∃ (x : V) (d : PyData) (lo hi : Int), vs = [x, .int lo, .int hi] ∧ Dp K H x d ∧ Q (.bl (numD lo hi d)) H
/-! ### is_number: whether it's a number within bounds -/
abbrev s_is_number : Stmt := topS 3
def n_is_number : List Str := ["thing", "low", "high"]
theorem sc_is_number : FnScope n_is_number ["thing", "low", "high"] (defScope s_is_number) := ⟨rfl, rfl, rfl, by decide +kernel, rfl, by decide +kernel, by decide +kernel⟩
theorem ok_numD {f : Addr} {fd : FuncData} {k : Nat} (F : Fun K "is_number" "is_number" s_is_number f fd) (T : Txt mg) : FnOk P w K mg base CX0 (k + 1) f fd ["thing", "low", "high"] (spNumD K) := by
  refine F.ok sc_is_number (fun vs H Q E h => ?_) (fun cdv A outer s H vs Q E hr h => ?_)
  · obtain ⟨x, d, lo, hi, rfl, _⟩ := h
    rfl
  · obtain ⟨x, d, lo, hi, rfl, dp, q⟩ := h
    have nd := sc_is_number.nd
    refine ⟨_, (pss_one (ps_ret (pe_and (pe_callB (kc_isi (K := K)) (by rfl) T.isinstance (by decide +kernel) (pa_cons (pv 0) (pa_cons (pe_bltn (v := .ty "int") (by rfl) T.int (by decide +kernel) rfl) pa_nil))) (pe_and (pe_not (pe_callB (kc_isi (K := K)) (by rfl) T.isinstance (by decide +kernel) (pa_cons (pv 0) (pa_cons (pe_bltn (v := .ty "bool") (by rfl) T.bool (by decide +kernel) rfl) pa_nil)))) (pe_one (pe_chain op_le op_le (pv 1) (pv 0) (pv 2))))))), ?_⟩
    refine ⟨_, rfl, _, .ty _, _, _, isIntD _, rfl, .ty _, tyx_dp dp, kit_int dp, _, rfl, ?_⟩
    have dp2 := dp
    cases dp with
    | int i =>
      refine iteT ⟨_, rfl, _, .ty _, _, _, isBoolD _, rfl, .ty _, tyx_dp dp2, kit_bool dp2, _, rfl, _, rfl, iteT ?_⟩
      refine ⟨_, rfl, _, rfl, _, _, rfl, rfl, _, rfl, ite2 (fun h1 => ⟨_, rfl, _, _, rfl, rfl, ?_⟩) (fun h1 => ?_)⟩
      · have e : numD lo hi (.int i) = decide (i ≤ hi) := by show (decide (lo ≤ i) && _) = _; rw [h1]; rfl
        rw [e] at q; exact q
      · have e : numD lo hi (.int i) = false := by show (decide (lo ≤ i) && _) = _; rw [Bool.not_eq_true _ |>.mp h1]; rfl
        rw [e] at q; exact q
    | bl b =>
      refine iteT ⟨_, rfl, _, .ty _, _, _, isBoolD _, rfl, .ty _, tyx_dp dp2, kit_bool dp2, _, rfl, _, rfl, iteF q⟩
    | non => exact iteF q
    | str _ => exact iteF q
    | lst _ _ => exact iteF q
    | tup _ _ => exact iteF q
/-! ### the tables of the module -/
def bdF (z : Str) : Option (Int × Int) := if z = "hours" then some (0, 999) else if z = "gathers" then some (1, 999) else if z = "hour" then some (0, 9999) else if z = "number" then some (0, 1000000000) else none
def ptF (z : Str) : Option (List Str) := if z = "fill" then some ["name", "name"] else if z = "wash" then some ["name", "hours"] else if z = "empty" then some ["name"] else if z = "gather" then some ["name", "name", "name", "gathers"] else if z = "break" then some ["name"] else if z = "new" then some ["name", "hours"] else none
def Bnd (K : PySem.W.Frag) (w : World) (mg : Str → Option Value) : Prop := ∃ W f, mg "BOUNDS" = some (.ref W) ∧ KdX K w W f ∧ ∀ z, (f z = none ∧ bdF z = none) ∨ ∃ p lo hi, f z = some (.ref p) ∧ bdF z = some (lo, hi) ∧ ∀ H, SqT K H p [.int lo, .int hi]
def Prt (K : PySem.W.Frag) (w : World) (mg : Str → Option Value) : Prop := ∃ W f, mg "PARTS" = some (.ref W) ∧ KdX K w W f ∧ ∀ z, (f z = none ∧ ptF z = none) ∨ ∃ p ss, f z = some (.ref p) ∧ ptF z = some ss ∧ ∀ H, SqT K H p (ss.map V.str)
theorem find_if {l : List (Str × Tok × Addr)} {x : Str} {t : Tok} {p : Addr} {z : Str} : ((((x, t, p) :: l).find? fun e => decide (z = e.1)).map fun e => V.ref e.2.2) = if z = x then some (.ref p) else ((l.find? fun e => decide (z = e.1)).map fun e => V.ref e.2.2) := by
  by_cases h : z = x
  · rw [if_pos h, List.find?_cons_of_pos (p := fun e : Str × Tok × Addr => decide (z = e.1)) (decide_eq_true h)]; rfl
  · rw [if_neg h, List.find?_cons_of_neg (p := fun e : Str × Tok × Addr => decide (z = e.1)) (by simpa using h)]
def entE (w : World) (e : Str × Tok × Addr) : DictEntry := ⟨PyData.keyHash w.params e.1, .str e.1 e.2.1, .ref e.2.2⟩
theorem ent_find (w : World) (z : Str) : ∀ l : List (Str × Tok × Addr), (l.map (entE w)).find? (·.key.isStr z) = (l.find? fun e => decide (z = e.1)).map (entE w)
  | [] => rfl
  | e :: l => by
    have e1 : (entE w e).key.isStr z = decide (z = e.1) := by
      show (e.1 == z) = _
      by_cases h : z = e.1
      · rw [decide_eq_true h, h]; simp
      · rw [decide_eq_false h]; simpa using fun k => h k.symm
    rw [List.map_cons, List.find?_cons, List.find?_cons, e1, ent_find w z l]
    cases decide (z = e.1) <;> rfl
theorem ent_ref (w : World) : ∀ l : List (Str × Tok × Addr), (l.map (entE w)).any (·.refKey) = false
  | [] => rfl
  | e :: l => by rw [List.map_cons, List.any_cons, ent_ref w l]; rfl
theorem ent_lit (w : World) : ∀ l : List (Str × Tok × Addr), PySem.W.KeysLit w.params (l.map (entE w))
  | [] => trivial
  | e :: l => ⟨⟨_, _, rfl, rfl⟩, ent_lit w l⟩
theorem kdx_of {K : PySem.W.Frag} {w : World} {W : Addr} {n : Nat} {l : List (Str × Tok × Addr)} (h : K.lookup W = some ⟨.type "dict", none, .dict (l.map (entE w)).toArray n, #[]⟩) (s : (W == sysModules) = false) : KdX K w W fun z => (l.find? fun e => decide (z = e.1)).map fun e => V.ref e.2.2 := by
  refine ⟨_, n, ⟨h, ent_lit w l, s⟩, fun z => ⟨(l.find? fun e => decide (z = e.1)).map fun e => Value.ref e.2.2, ?_, ?_⟩⟩
  · unfold PySem.W.nsIn
    rw [h]
    show (match (l.map (entE w)).find? (·.key.isStr z) with | some e => some (some e.val) | none => if (l.map (entE w)).any (·.refKey) then none else some none) = _
    rw [ent_find, ent_ref]
    cases l.find? fun e => decide (z = e.1) <;> rfl
  · show kdR ((l.find? fun e => decide (z = e.1)).map fun e => V.ref e.2.2) ((l.find? fun e => decide (z = e.1)).map fun e => Value.ref e.2.2)
    cases l.find? fun e => decide (z = e.1) with
    | none => exact trivial
    | some e => exact (show RelV (V.ref e.2.2) (Value.ref e.2.2) from rfl)
theorem bnd_of {K : PySem.W.Frag} {w : World} {mg : Str → Option Value} {W : Addr} {n : Nat} {t0 t1 t2 t3 : Tok} {p0 p1 p2 p3 : Addr} (hm : mg "BOUNDS" = some (.ref W)) (h : K.lookup W = some ⟨.type "dict", none, .dict (([("hours", t0, p0), ("gathers", t1, p1), ("hour", t2, p2), ("number", t3, p3)] : List (Str × Tok × Addr)).map (entE w)).toArray n, #[]⟩) (s : (W == sysModules) = false)
    (m0 : ∀ H, SqT K H p0 [.int 0, .int 999]) (m1 : ∀ H, SqT K H p1 [.int 1, .int 999]) (m2 : ∀ H, SqT K H p2 [.int 0, .int 9999]) (m3 : ∀ H, SqT K H p3 [.int 0, .int 1000000000]) : Bnd K w mg := by
  refine ⟨W, _, hm, kdx_of h s, fun z => ?_⟩
  rw [find_if, find_if, find_if, find_if]
  unfold bdF
  by_cases e0 : z = "hours"
  · rw [if_pos e0, if_pos e0]; exact .inr ⟨_, _, _, rfl, rfl, m0⟩
  rw [if_neg e0, if_neg e0]
  by_cases e1 : z = "gathers"
  · rw [if_pos e1, if_pos e1]; exact .inr ⟨_, _, _, rfl, rfl, m1⟩
  rw [if_neg e1, if_neg e1]
  by_cases e2 : z = "hour"
  · rw [if_pos e2, if_pos e2]; exact .inr ⟨_, _, _, rfl, rfl, m2⟩
  rw [if_neg e2, if_neg e2]
  by_cases e3 : z = "number"
  · rw [if_pos e3, if_pos e3]; exact .inr ⟨_, _, _, rfl, rfl, m3⟩
  rw [if_neg e3, if_neg e3]
  exact .inl ⟨rfl, rfl⟩
theorem prt_of {K : PySem.W.Frag} {w : World} {mg : Str → Option Value} {W : Addr} {n : Nat} {t0 t1 t2 t3 t4 t5 : Tok} {p0 p1 p2 p3 p4 p5 : Addr} (hm : mg "PARTS" = some (.ref W)) (h : K.lookup W = some ⟨.type "dict", none, .dict (([("fill", t0, p0), ("wash", t1, p1), ("empty", t2, p2), ("gather", t3, p3), ("break", t4, p4), ("new", t5, p5)] : List (Str × Tok × Addr)).map (entE w)).toArray n, #[]⟩) (s : (W == sysModules) = false)
    (m0 : ∀ H, SqT K H p0 [.str "name", .str "name"]) (m1 : ∀ H, SqT K H p1 [.str "name", .str "hours"]) (m2 : ∀ H, SqT K H p2 [.str "name"]) (m3 : ∀ H, SqT K H p3 [.str "name", .str "name", .str "name", .str "gathers"]) (m4 : ∀ H, SqT K H p4 [.str "name"]) (m5 : ∀ H, SqT K H p5 [.str "name", .str "hours"]) : Prt K w mg := by
  refine ⟨W, _, hm, kdx_of h s, fun z => ?_⟩
  rw [find_if, find_if, find_if, find_if, find_if, find_if]
  unfold ptF
  by_cases e0 : z = "fill"
  · rw [if_pos e0, if_pos e0]; exact .inr ⟨_, _, rfl, rfl, m0⟩
  rw [if_neg e0, if_neg e0]
  by_cases e1 : z = "wash"
  · rw [if_pos e1, if_pos e1]; exact .inr ⟨_, _, rfl, rfl, m1⟩
  rw [if_neg e1, if_neg e1]
  by_cases e2 : z = "empty"
  · rw [if_pos e2, if_pos e2]; exact .inr ⟨_, _, rfl, rfl, m2⟩
  rw [if_neg e2, if_neg e2]
  by_cases e3 : z = "gather"
  · rw [if_pos e3, if_pos e3]; exact .inr ⟨_, _, rfl, rfl, m3⟩
  rw [if_neg e3, if_neg e3]
  by_cases e4 : z = "break"
  · rw [if_pos e4, if_pos e4]; exact .inr ⟨_, _, rfl, rfl, m4⟩
  rw [if_neg e4, if_neg e4]
  by_cases e5 : z = "new"
  · rw [if_pos e5, if_pos e5]; exact .inr ⟨_, _, rfl, rfl, m5⟩
  rw [if_neg e5, if_neg e5]
  exact .inl ⟨rfl, rfl⟩
def partD (s : Str) (d : PyData) : Bool := match bdF s with
  | some q => numD q.1 q.2 d
  | none => nameD d
def partsD : List Str → List PyData → Bool
  | [], [] => true
  | s :: ss, d :: ds => partD s d && partsD ss ds
  | _, _ => false
def deedD : PyData → Bool
  | .tuple (.str z :: ds) => (match ptF z with
    | some ss => partsD ss ds
    | none => false)
  | _ => false
theorem parts_is : ∀ {ss : List Str} {ds : List PyData}, ss.length = ds.length → partsD ss ds = ((List.range ss.length).map fun i => partD (ss.getD i "") (ds.getD i .none)).all id
  | [], [], _ => rfl
  | s :: ss, d :: ds, h => by
    have ih := parts_is (ss := ss) (ds := ds) (by simpa using h)
    show (partD s d && partsD ss ds) = _
    rw [ih, List.length_cons, List.range_succ_eq_map, List.map_cons, List.all_cons, List.map_map]
    rfl
  | [], _ :: _, h => by simp at h
  | _ :: _, [], h => by simp at h
theorem parts_not : ∀ {ss : List Str} {ds : List PyData}, ss.length ≠ ds.length → partsD ss ds = false
  | [], [], h => absurd rfl h
  | s :: ss, d :: ds, h => by
    show (partD s d && partsD ss ds) = false
    rw [parts_not (by simpa using h), Bool.and_false]
  | [], _ :: _, _ => rfl
  | _ :: _, [], _ => rfl
theorem pt_sorts {z : Str} {ss : List Str} (h : ptF z = some ss) : (∀ s ∈ ss, s ≠ "shade") ∧ ss.length ≤ 4 := by
  unfold ptF at h
  repeat' split at h
  all_goals first
    | cases h; exact ⟨by decide +kernel, by decide⟩
    | cases h
abbrev s_is_part : Stmt := topS 6
def n_is_part : List Str := ["thing", "sort"]
theorem sc_is_part : FnScope n_is_part ["thing", "sort"] (defScope s_is_part) := ⟨rfl, rfl, rfl, by decide +kernel, rfl, by decide +kernel, by decide +kernel⟩
def spPart (K : PySem.W.Frag) : Sp := fun vs H Q _ => ∃ (x : V) (d : PyData) (s : Str) (m : Nat), vs = [x, .str s] ∧ Dp K H x d ∧ gd m d ∧ s ≠ "shade" ∧ ∀ H', Same H H' → Q (.bl (partD s d)) H'
theorem ok_part {f : Addr} {fd : FuncData} {k : Nat} (F : Fun K "is_part" "is_part" s_is_part f fd) (T : Txt mg) (LB : Bnd K w mg) (c_is_number : Cl P w K mg base (k + 1) "is_number" (spNumD K)) (c_is_name : Cl P w K mg base (k + 1) "is_name" (spName K)) : FnOk P w K mg base CX0 (k + 2) f fd ["thing", "sort"] (spPart K) := by
  refine F.ok sc_is_part (fun vs H Q E h => ?_) (fun cdv A outer s H vs Q E hr h => ?_)
  · obtain ⟨x, d, s, m, rfl, _⟩ := h
    rfl
  · obtain ⟨x, d, sr, m, rfl, dp, hg, ns, q⟩ := h
    obtain ⟨WB, fB, hB, DB, pB⟩ := LB
    have nd := sc_is_part.nd
    have hu64 := hr.units
    refine ⟨_, (pss_cons (ps_if (pt_cmpR (ko_inX DB) (pv 1) (pe_glob (v := .ref WB) (by rfl) hB rfl) rfl)
          (pss_one (ps_ret (pe_cl c_is_number hr (by omega) (by rfl) (pa_cons (pv 0) (pa_cons (pe_ix (kx_tup (K := K)) (pe_ix (kx_kd DB) (pe_glob (v := .ref WB) (by rfl) hB rfl) (pv 1) (fun _ _ => rfl)) pe_int (fun _ _ => rfl)) (pa_cons (pe_ix (kx_tup (K := K)) (pe_ix (kx_kd DB) (pe_glob (v := .ref WB) (by rfl) hB rfl) (pv 1) (fun _ _ => rfl)) pe_int (fun _ _ => rfl)) pa_nil))))))
          pss_nil)
      (pss_one (ps_ret (pe_or (pe_cl c_is_name hr (by omega) (by rfl) (pa_cons (pv 0) pa_nil)) (pe_one (pe_and (pe_cmpR op_eq (pv 1) pe_str (nomark _)) (pe_one (pe_cmpR (ko_eq (K := K) hu64) (pv 0) pe_str (nomark _))))))))), ?_⟩
    refine ⟨_, rfl, sr, rfl, rfl, _, rfl, ?_⟩
    rcases pB sr with ⟨e1, e2⟩ | ⟨p, lo, hi, e1, e2, sp⟩
    · have e0 : partD sr d = nameD d := by unfold partD; rw [e2]
      rw [e0] at q
      rw [e1]
      refine iteF ?_
      refine ⟨_, rfl, x, d, m, rfl, dp, hg, fun H1 s1 => ?_⟩
      cases hn : nameD d with
      | true => rw [hn] at q; exact ⟨_, rfl, iteT (q _ s1)⟩
      | false =>
        rw [hn] at q
        refine ⟨_, rfl, iteF ⟨_, rfl, rfl, _, rfl, ?_⟩⟩
        rw [decide_eq_false (fun e => ns (V.str.inj e))]
        exact iteF (q _ s1)
    · have e0 : partD sr d = numD lo hi d := by unfold partD; rw [e2]
      rw [e0] at q
      rw [e1]
      refine iteT ⟨_, rfl, _, rfl, sr, _, rfl, rfl, e1, p, _, 0, _, rfl, rfl, sp _, rfl, _, rfl, sr, _, rfl, rfl, e1, p, _, 1, _, rfl, rfl, sp _, rfl, ?_⟩
      exact ⟨x, d, lo, hi, rfl, dp, q _ (Same.refl _)⟩
abbrev s_are_parts : Stmt := topS 5
def n_are_parts : List Str := ["things", "sorts", "thing", "sort"]
theorem sc_are_parts : FnScope n_are_parts ["things", "sorts"] (defScope s_are_parts) := ⟨rfl, rfl, rfl, by decide +kernel, rfl, by decide +kernel, by decide +kernel⟩
def spParts (K : PySem.W.Frag) : Sp := fun vs H Q _ => ∃ (a p : Addr) (xs : List V) (ds : List PyData) (ss : List Str) (m : Nat), vs = [.ref a, .ref p] ∧ SqT K H a xs ∧ DpAll K H xs ds ∧ (∀ d ∈ ds, gd m d) ∧ (∀ H', Same H H' → SqT K H' p (ss.map V.str)) ∧ (∀ s ∈ ss, s ≠ "shade") ∧ ss.length ≤ 4 ∧ ∀ H', Same H H' → Q (.bl (partsD ss ds)) H'
theorem ok_parts {f : Addr} {fd : FuncData} {k : Nat} (F : Fun K "are_parts" "are_parts" s_are_parts f fd) (T : Txt mg) (c_is_part : Cl P w K mg base (k + 2) "is_part" (spPart K)) : FnOk P w K mg base CX0 (k + 3) f fd ["things", "sorts"] (spParts K) := by
  refine F.ok sc_are_parts (fun vs H Q E h => ?_) (fun cdv A outer s H vs Q E hr h => ?_)
  · obtain ⟨a, p, xs, ds, ss, m, rfl, _⟩ := h
    rfl
  · obtain ⟨a, p, xs, ds, ss, m, rfl, hS, dx, hg, hp, ns, l4, q⟩ := h
    have nd := sc_are_parts.nd
    have lx : xs.length = ds.length := dpAll_len dx
    refine ⟨_, (pss_one (ps_ret (pe_and (pe_cmpR op_eq (pe_callB (kc_len (K := K)) (by rfl) T.len PySem.boot_len (pa_cons (pv 0) pa_nil)) (pe_callB (kc_len (K := K)) (by rfl) T.len PySem.boot_len (pa_cons (pv 1) pa_nil)) (nomark _)) (pe_one (pe_callB (kc_all (K := K)) (by rfl) T.all (by decide +kernel) (pa_cons (pe_lc (own := [("thing", 2), ("sort", 3)]) rfl nd (ki_zip (K := K) (by rfl) T.zip (pa_cons (pv 0) (pa_cons (pv 1) pa_nil))) (blkOk_by (N := n_are_parts) (sc := defScope s_are_parts) (by decide +kernel)) (fun _ _ _ _ _ => (kg_tup (K := K) (n := 2) (pgs_cons (pg_name (i := 2) nd rfl (.inl rfl)) (pgs_cons (pg_name (i := 3) nd rfl (.inl rfl)) pgs_nil)))) (fun _ _ _ _ _ => pts_nil) (fun _ _ _ _ _ => (pe_cl c_is_part hr (by omega) (by rfl) (pa_cons (pv 2) (pa_cons (pv 3) pa_nil))))) pa_nil)))))), ?_⟩
    refine ⟨_, rfl, _, _, rfl, .inr ⟨_, hS, rfl⟩, _, rfl, _, _, rfl, .inr ⟨_, hp _ (Same.refl _), rfl⟩, rfl, _, rfl, ite2 (fun h1 => ?_) (fun h1 => ?_)⟩
    · have h1 : xs.length = ss.length := by have := V.int.inj (of_decide_eq_true h1); rw [List.length_map] at this; omega
      have el : ss.length = ds.length := by omega
      rw [parts_is el] at q
      obtain ⟨bs, ebs⟩ : ∃ bs, bs = (List.range ss.length).map fun i => partD (ss.getD i "") (ds.getD i .none) := ⟨_, rfl⟩
      have lb : bs.length = ss.length := by rw [ebs, List.length_map, List.length_range]
      rw [← ebs] at q
      refine ⟨_, rfl, _, rfl, a, p, _, _, rfl, .inr ⟨hS, hp _ (Same.refl _), fun D nD => ?_⟩⟩
      refine lc_it (walk_zipT (xs := xs) (ys := ss.map V.str) (n := ss.length) (by rw [List.length_map, h1, Nat.min_self])) (PvL H D fun i => (bs.take i).map V.bl) (pv_start nD rfl) (fun i H4 _ h => ⟨same_tup h.1 hS, hp _ h.1⟩) ?_ ?_
      · rintro i x H4 H5 hi pv ⟨t, x1, y1, rfl, nt, rfl, gx, gy⟩
        have gx : xs[i]? = some x1 := gx
        have gy : (ss.map V.str)[i]? = some y1 := gy
        rw [List.getElem?_map] at gy
        obtain ⟨s1, gs, rfl⟩ := Option.map_eq_some_iff.mp gy
        obtain ⟨d1, gd1, dp1⟩ := dpAll_at (dpAll_same pv.1 dx) gx
        have st := same_upd (o := .tup [x1, .str s1]) nt
        have eb : bs[i]? = some (partD s1 d1) := by
          rw [ebs, List.getElem?_map, List.getElem?_range hi]; show some (partD (ss.getD i "") (ds.getD i .none)) = _; rw [List.getD_eq_getElem?_getD, List.getD_eq_getElem?_getD, gs, gd1]; rfl
        refine ⟨t, _, rfl, .inl (.inl upd_same), rfl, _, _, rfl, _, _, rfl, rfl, rfl, tYes_at ?_⟩
        rw [if_pos rfl]
        refine ⟨_, rfl, _, rfl, x1, d1, s1, m, rfl, dp_same st dp1, hg d1 (List.mem_of_getElem? gd1), ns s1 (List.mem_of_getElem? gs), fun H6 s6 => ?_⟩
        exact pv_put nD pv (st.trans s6) (take_map V.bl eb) (take_len_le (by rw [lb]; omega))
      · intro H4 pv
        obtain ⟨s4, hD⟩ := pv_end pv (show _ = bs.map V.bl by rw [← lb, List.take_length])
        exact ⟨D, bs, rfl, SqL.of hD, q _ s4⟩
    · have h1 : ss.length ≠ ds.length := fun e => h1 (decide_eq_true (by rw [List.length_map, lx, e]))
      rw [parts_not h1] at q
      exact q _ (Same.refl _)
abbrev s_is_deed : Stmt := topS 9
def n_is_deed : List Str := ["thing"]
theorem sc_is_deed : FnScope n_is_deed ["thing"] (defScope s_is_deed) := ⟨rfl, rfl, rfl, by decide +kernel, rfl, by decide +kernel, by decide +kernel⟩
def spDeed (K : PySem.W.Frag) : Sp := fun vs H Q _ => ∃ (x : V) (d : PyData) (m : Nat), vs = [x] ∧ Dp K H x d ∧ gd m d ∧ ∀ H', Same H H' → Q (.bl (deedD d)) H'
theorem ok_deed {f : Addr} {fd : FuncData} {k : Nat} (F : Fun K "is_deed" "is_deed" s_is_deed f fd) (T : Txt mg) (LP : Prt K w mg) (c_are_parts : Cl P w K mg base (k + 3) "are_parts" (spParts K)) : FnOk P w K mg base CX0 (k + 4) f fd ["thing"] (spDeed K) := by
  refine F.ok sc_is_deed (fun vs H Q E h => ?_) (fun cdv A outer s H vs Q E hr h => ?_)
  · obtain ⟨x, d, m, rfl, _⟩ := h
    rfl
  · obtain ⟨x, d, m, rfl, dp, hg, q⟩ := h
    obtain ⟨WP, fP, hP, DP, pP⟩ := LP
    have nd := sc_is_deed.nd
    refine ⟨_, (pss_one (ps_ret (pe_and (pe_callB (kc_isi (K := K)) (by rfl) T.isinstance (by decide +kernel) (pa_cons (pv 0) (pa_cons (pe_bltn (v := .ty "tuple") (by rfl) T.tuple (by decide +kernel) rfl) pa_nil))) (pe_and (pe_cmpR op_gt (pe_callB (kc_len (K := K)) (by rfl) T.len PySem.boot_len (pa_cons (pv 0) pa_nil)) pe_int (nomark _)) (pe_and (pe_callB (kc_isi (K := K)) (by rfl) T.isinstance (by decide +kernel) (pa_cons (pe_ix (kx_tup (K := K)) (pv 0) pe_int (fun _ _ => rfl)) (pa_cons (pe_bltn (v := .ty "str") (by rfl) T.str (by decide +kernel) rfl) pa_nil))) (pe_and (pe_cmpR (ko_inX DP) (pe_ix (kx_tup (K := K)) (pv 0) pe_int (fun _ _ => rfl)) (pe_glob (v := .ref WP) (by rfl) hP rfl) rfl) (pe_one (pe_cl c_are_parts hr (by omega) (by rfl) (pa_cons (pe_slice (kl_tup (K := K)) (pv 0) (po_some pe_int) po_none) (pa_cons (pe_ix (kx_kd DP) (pe_glob (v := .ref WP) (by rfl) hP rfl) (pe_ix (kx_tup (K := K)) (pv 0) pe_int (fun _ _ => rfl)) (fun _ _ => rfl)) pa_nil)))))))))), ?_⟩
    refine ⟨_, rfl, _, .ty _, _, _, isTupD _, rfl, .ty _, tyx_dp dp, kit_tup dp, _, rfl, ?_⟩
    cases dp with
    | @tup a xs ds hS hx =>
      refine iteT ?_
      refine ⟨_, rfl, _, _, rfl, .inr ⟨_, hS, rfl⟩, _, _, rfl, rfl, _, rfl, ?_⟩
      cases hx with
      | nil => exact iteF (q _ (Same.refl _))
      | cons dp0 hx =>
        rename_i x0 xr d0 dr
        have a0 : atI (x0 :: xr) 0 = some x0 := atI_nat (j := 0) rfl
        rw [decide_eq_true (show (0 : Int) < ((x0 :: xr).length : Nat) by rw [List.length_cons]; omega)]
        refine iteT ⟨_, rfl, a, _, 0, _, rfl, rfl, hS, a0, _, .ty _, _, _, isStrD _, rfl, .ty _, tyx_dp dp0, kit_str dp0, _, rfl, ?_⟩
        cases dp0 with
        | str z =>
          refine iteT ⟨_, rfl, a, _, 0, _, rfl, rfl, hS, a0, z, rfl, rfl, _, rfl, ?_⟩
          rcases pP z with ⟨e1, e2⟩ | ⟨p, ss, e1, e2, sp⟩
          · have e0 : deedD (.tuple (.str z :: dr)) = false := by show (match ptF z with | some ss => partsD ss dr | none => false) = false; rw [e2]
            rw [e0] at q
            rw [e1]
            exact iteF (q _ (Same.refl _))
          · have e0 : deedD (.tuple (.str z :: dr)) = partsD ss dr := by show (match ptF z with | some ss => partsD ss dr | none => false) = _; rw [e2]
            rw [e0] at q
            rw [e1]
            have pz := pt_sorts e2
            have ec : cutV (V.str z :: xr) (some (1 : Int)) none = xr := cut_tail (k := 1)
            refine iteT ⟨_, rfl, 1, rfl, a, _, rfl, hS, fun z0 => ?_, fun _ u nu => ?_⟩
            · have h := z0.1
              rw [show HT.sIx (V.str z :: xr).length 0 (some 1) = min 1 (V.str z :: xr).length from HT.sIx_nat _ _ 1, List.length_cons] at h
              omega
            rw [ec]
            have su := same_upd (o := .tup xr) nu
            exact ⟨_, rfl, a, _, 0, _, rfl, rfl, same_tup su hS, a0, z, _, rfl, rfl, e1, u, p, xr, dr, ss, m, rfl, .inl (.inl upd_same), dpAll_same su hx, gdAll_iff.mp hg.2, fun H' _ => sp H', pz.1, pz.2, fun H' s => q _ (su.trans s)⟩
        | int _ => exact iteF (q _ (Same.refl _))
        | bl b => exact iteF (q _ (Same.refl _))
        | non => exact iteF (q _ (Same.refl _))
        | lst _ _ => exact iteF (q _ (Same.refl _))
        | tup _ _ => exact iteF (q _ (Same.refl _))
    | str z => exact iteF (q _ (Same.refl _))
    | int _ => exact iteF (q _ (Same.refl _))
    | bl b => exact iteF (q _ (Same.refl _))
    | non => exact iteF (q _ (Same.refl _))
    | lst _ _ => exact iteF (q _ (Same.refl _))

end
end Pot




namespace Pot
open PySem PySem.Spec PyProof.Rows L2
section
variable {P : Program} {w : World} {K : PySem.W.Frag} {mg : Str → Option Value} {base : Heap}
theorem seq_mid {t u : TS} {D} {σ : L2.St} {H : Hp} (G : L2.St → Hp → Prop) (h1 : ∀ N : L2.St → Hp → Prop, (∀ σ' H', G σ' H' → N σ' H') → t { D with nx := N } σ H) (h2 : ∀ σ' H', G σ' H' → u D σ' H') : tSeq t u D σ H := h1 (u D) h2
theorem inV_strs (z : Str) : ∀ zs : List Str, inV (V.str z) (zs.map V.str) = decide (z ∈ zs)
  | [] => rfl
  | x :: zs => by
    have ih := inV_strs z zs
    unfold inV at ih ⊢
    rw [List.map_cons, List.any_cons, ih, Bool.eq_iff_iff, Bool.or_eq_true, decide_eq_true_eq, decide_eq_true_eq, List.mem_cons]
    refine or_congr ?_ Iff.rfl
    show decide (x = z) = true ↔ _
    rw [decide_eq_true_eq]; exact eq_comm
theorem pt_fill : ptF "fill" = some (["name", "name"] : List Str) := by decide +kernel
theorem pt_wash : ptF "wash" = some (["name", "hours"] : List Str) := by decide +kernel
theorem pt_empty : ptF "empty" = some (["name"] : List Str) := by decide +kernel
theorem pt_gather : ptF "gather" = some (["name", "name", "name", "gathers"] : List Str) := by decide +kernel
theorem pt_break : ptF "break" = some (["name"] : List Str) := by decide +kernel
theorem pt_new : ptF "new" = some (["name", "hours"] : List Str) := by decide +kernel
theorem bd_name : bdF "name" = none := by decide +kernel
theorem bd_hours : bdF "hours" = some (0, 999) := by decide +kernel
theorem bd_gathers : bdF "gathers" = some (1, 999) := by decide +kernel
theorem pa_name (d : PyData) : partD "name" d = nameD d := by unfold partD; rw [bd_name]
theorem pa_hours (d : PyData) : partD "hours" d = numD 0 999 d := by unfold partD; rw [bd_hours]
theorem pa_gathers (d : PyData) : partD "gathers" d = numD 1 999 d := by unfold partD; rw [bd_gathers]
theorem deed_of {z : Str} {ss : List Str} (h : ptF z = some ss) (ds : List PyData) : deedD (.tuple (.str z :: ds)) = partsD ss ds := by
  show (match ptF z with | some ss => partsD ss ds | none => false) = _
  rw [h]
theorem deed_none {z : Str} (h : ptF z = none) (ds : List PyData) : deedD (.tuple (.str z :: ds)) = false := by
  show (match ptF z with | some ss => partsD ss ds | none => false) = _
  rw [h]
theorem deed_wash (z : Str) (h : z = "wash" ∨ z = "new") (a b : PyData) : deedD (.tuple [.str z, a, b]) = ([a].map nameD ++ [numD 0 999 b]).all id := by
  have p : ptF z = some (["name", "hours"] : List Str) := by
    rcases h with rfl | rfl
    · exact pt_wash
    · exact pt_new
  rw [deed_of p]
  show (partD "name" a && (partD "hours" b && true)) = (nameD a && (numD 0 999 b && true))
  rw [pa_name, pa_hours]
theorem deed_gather (a b c d : PyData) : deedD (.tuple [.str "gather", a, b, c, d]) = ([a, b, c].map nameD ++ [numD 1 999 d]).all id := by
  rw [deed_of pt_gather]
  show (partD "name" a && (partD "name" b && (partD "name" c && (partD "gathers" d && true)))) = (nameD a && (nameD b && (nameD c && (numD 1 999 d && true))))
  rw [pa_name, pa_name, pa_name, pa_gathers]
theorem deed_fill (a b : PyData) : deedD (.tuple [.str "fill", a, b]) = ([a, b].map nameD ++ []).all id := by
  rw [deed_of pt_fill]
  show (partD "name" a && (partD "name" b && true)) = (nameD a && (nameD b && true))
  rw [pa_name, pa_name]
theorem deed_one (z : Str) (h : z = "empty" ∨ z = "break") (a : PyData) : deedD (.tuple [.str z, a]) = ([a].map nameD ++ []).all id := by
  have p : ptF z = some (["name"] : List Str) := by
    rcases h with rfl | rfl
    · exact pt_empty
    · exact pt_break
  rw [deed_of p]
  show (partD "name" a && true) = (nameD a && true)
  rw [pa_name]
theorem deed_no (z : Str) (ds : List PyData) (h1 : ¬ ((z = "wash" ∨ z = "new") ∧ ds.length = 2)) (h2 : ¬ (z = "gather" ∧ ds.length = 4)) (h3 : ¬ (z = "fill" ∧ ds.length = 2)) (h4 : ¬ ((z = "empty" ∨ z = "break") ∧ ds.length = 1)) : deedD (.tuple (.str z :: ds)) = false := by
  have go : ∀ {ss : List Str}, ptF z = some ss → ss.length ≠ ds.length → deedD (.tuple (.str z :: ds)) = false := fun h n => by rw [deed_of h]; exact parts_not n
  by_cases e1 : z = "fill"
  · subst e1; exact go pt_fill fun e => h3 ⟨rfl, e.symm⟩
  by_cases e2 : z = "wash"
  · subst e2; exact go pt_wash fun e => h1 ⟨.inl rfl, e.symm⟩
  by_cases e3 : z = "empty"
  · subst e3; exact go pt_empty fun e => h4 ⟨.inl rfl, e.symm⟩
  by_cases e4 : z = "gather"
  · subst e4; exact go pt_gather fun e => h2 ⟨rfl, e.symm⟩
  by_cases e5 : z = "break"
  · subst e5; exact go pt_break fun e => h4 ⟨.inr rfl, e.symm⟩
  by_cases e6 : z = "new"
  · subst e6; exact go pt_new fun e => h1 ⟨.inr rfl, e.symm⟩
  exact deed_none (by unfold ptF; rw [if_neg e1, if_neg e2, if_neg e3, if_neg e4, if_neg e5, if_neg e6]) ds
theorem deed_short {ds : List PyData} (h : ds.length < 2) : deedD (.tuple ds) = false := by
  match ds, h with
  | [], _ => rfl
  | [.str z], _ => exact deed_no z [] (fun h => by simp at h) (fun h => by simp at h) (fun h => by simp at h) (fun h => by simp at h)
  | [.none], _ => rfl
  | [.bool _], _ => rfl
  | [.int _], _ => rfl
  | [.list _], _ => rfl
  | [.tuple _], _ => rfl
  | [.dict _], _ => rfl
theorem ifs_alt {c : _} {t u : TS} {D σ} {H : Hp} (alt : ∀ Hy, Same H Hy → u D σ Hy) (main : (∀ Hy, Same H Hy → u D σ Hy) → tIfS c t u D σ H) : tIfS c t u D σ H := main alt
theorem sh_two {n : Nat} (h : 3 ≤ n) {k : Int} {hi : Option Int} : ¬ (HT.sIx n 0 (some 1) = 0 ∧ HT.sIx n n hi = n) := fun z => by
  have h1 := z.1
  rw [show HT.sIx n 0 (some 1) = min 1 n from HT.sIx_nat _ _ 1] at h1
  omega
abbrev s__law_is_name : Stmt := topS 17
def n__law_is_name : List Str := ["_law_thing", "_law_letters", "_law_sign"]
theorem sc__law_is_name : FnScope n__law_is_name ["_law_thing"] (defScope s__law_is_name) := ⟨rfl, rfl, rfl, by decide +kernel, rfl, by decide +kernel, by decide +kernel⟩
theorem ok_lname {f : Addr} {fd : FuncData} {k : Nat} (F : Fun K "_law_is_name" "_law_is_name" s__law_is_name f fd) (T : Txt mg) : FnOk P w K mg base CX0 (k + 1) f fd ["_law_thing"] (spName K) := by
  refine F.ok sc__law_is_name (fun vs H Q E h => ?_) (fun cdv A outer s H vs Q E hr h => ?_)
  · obtain ⟨x, d, m, rfl, _⟩ := h
    rfl
  · obtain ⟨x, d, m, rfl, dp, hg, q⟩ := h
    have nd := sc__law_is_name.nd
    refine ⟨_, (pss_cons (ps_set (i := 1) nd rfl (.inr rfl) pe_str)
      (pss_one (ps_ret (pe_and (pe_callB (kc_isi (K := K)) (by rfl) T.isinstance (by decide +kernel) (pa_cons (pv 0) (pa_cons (pe_bltn (v := .ty "str") (by rfl) T.str (by decide +kernel) rfl) pa_nil))) (pe_and (pe_chain op_lt op_lt pe_int (pe_callB (kc_len (K := K)) (by rfl) T.len PySem.boot_len (pa_cons (pv 0) pa_nil)) pe_int) (pe_one (pe_callB (kc_all (K := K)) (by rfl) T.all (by decide +kernel) (pa_cons (pe_lc (own := [("_law_sign", 2)]) rfl nd (pi_str (pv 0)) (blkOk_by (N := n__law_is_name) (sc := defScope s__law_is_name) (by decide +kernel)) (fun _ _ _ _ _ => (pg_name (i := 2) nd rfl (.inl rfl))) (fun _ _ _ _ _ => pts_nil) (fun _ _ _ _ _ => (pe_cmpR op_in_sign (pv 2) (pv 1) rfl))) pa_nil)))))))), ?_⟩
    refine ⟨_, rfl, _, .ty _, _, _, isStrD _, rfl, .ty _, tyx_dp dp, kit_str dp, _, rfl, ?_⟩
    cases dp with
    | str z =>
      refine iteT ?_
      have hz : z.length ≤ 2000 := hg.1
      have hcs : z.cps.toList.length = z.cps.size := Array.length_toList
      have lz : z.cps.size ≤ 2000 := hz
      refine ⟨_, rfl, _, _, rfl, ⟨by rw [sizeLine_eq]; omega, rfl⟩, _, _, rfl, rfl, _, rfl, ite2 (fun h1 => ?_) (fun h1 => ?_)⟩
      · have h1 : 0 < z.length := by have := of_decide_eq_true h1; omega
        have d1 : decide ((1 : Int) ≤ (z.length : Nat)) = true := decide_eq_true (by omega)
        refine ⟨_, _, rfl, rfl, _, rfl, ite2 (fun h2 => ?_) (fun h2 => ?_)⟩
        · have h2 : z.length < 9 := by have := of_decide_eq_true h2; omega
          have e0 : nameD (.str z) = z.cps.toList.all fun c => decide (c ∈ abc.cps.toList) := by
            show (decide _ && (decide _ && _)) = _
            rw [d1, decide_eq_true (show ((z.length : Nat) : Int) ≤ 8 by omega)]; rfl
          refine ⟨_, rfl, z, rfl, fun D nD => ?_⟩
          refine lc_it (walk_str (z := z)) (PvL H D fun i => ((z.cps.toList.map fun c => decide (c ∈ abc.cps.toList)).take i).map V.bl) (pv_start nD rfl) (fun _ _ _ _ => trivial) ?_ ?_
          · rintro i x H4 H5 hi p ⟨rfl, c, gc, rfl⟩
            refine ⟨rfl, tYes_at ?_⟩
            rw [if_pos rfl]
            refine ⟨_, rfl, _, rfl, c, _, rfl, rfl, ?_⟩
            exact pv_put nD p (Same.refl _) (take_map V.bl (by rw [List.getElem?_map, Array.getElem?_toList, gc]; rfl)) (take_len_le (by rw [List.length_map, hcs]; omega))
          · intro H4 p
            obtain ⟨s4, hD⟩ := pv_end p (take_all (by rw [List.length_map, hcs]; exact Nat.le_refl _))
            refine ⟨D, _, rfl, SqL.of hD, ?_⟩
            have ea : (z.cps.toList.map fun c => decide (c ∈ abc.cps.toList)).all id = z.cps.toList.all fun c => decide (c ∈ abc.cps.toList) := by rw [List.all_map]; rfl
            rw [ea]
            rw [e0] at q
            exact q _ s4
        · have h2 : ¬ ((z.length : Nat) : Int) ≤ 8 := fun e => h2 (decide_eq_true (by omega))
          have e0 : nameD (.str z) = false := by
            show (decide _ && (decide _ && _)) = _
            rw [decide_eq_false h2, Bool.false_and, Bool.and_false]
          rw [e0] at q
          exact q _ (Same.refl _)
      · have h1 : ¬ (1 : Int) ≤ (z.length : Nat) := fun e => h1 (decide_eq_true (by omega))
        have e0 : nameD (.str z) = false := by
          show (decide _ && (decide _ && _)) = _
          rw [decide_eq_false h1]; rfl
        rw [e0] at q
        exact ⟨_, rfl, iteF (q _ (Same.refl _))⟩
    | int _ => exact iteF (q _ (Same.refl _))
    | bl b => exact iteF (q _ (Same.refl _))
    | non => exact iteF (q _ (Same.refl _))
    | lst _ _ => exact iteF (q _ (Same.refl _))
    | tup _ _ => exact iteF (q _ (Same.refl _))
abbrev s__law_is_count : Stmt := topS 18
def n__law_is_count : List Str := ["_law_thing", "_law_least"]
theorem sc__law_is_count : FnScope n__law_is_count ["_law_thing", "_law_least"] (defScope s__law_is_count) := ⟨rfl, rfl, rfl, by decide +kernel, rfl, by decide +kernel, by decide +kernel⟩
def spCnt (K : PySem.W.Frag) : Sp := fun vs H Q _ => ∃ (x : V) (d : PyData) (lo : Int), vs = [x, .int lo] ∧ Dp K H x d ∧ Q (.bl (numD lo 999 d)) H
theorem ok_cnt {f : Addr} {fd : FuncData} {k : Nat} (F : Fun K "_law_is_count" "_law_is_count" s__law_is_count f fd) (T : Txt mg) : FnOk P w K mg base CX0 (k + 1) f fd ["_law_thing", "_law_least"] (spCnt K) := by
  refine F.ok sc__law_is_count (fun vs H Q E h => ?_) (fun cdv A outer s H vs Q E hr h => ?_)
  · obtain ⟨x, d, lo, rfl, _⟩ := h
    rfl
  · obtain ⟨x, d, lo, rfl, dp, q⟩ := h
    have nd := sc__law_is_count.nd
    refine ⟨_, (pss_one (ps_ret (pe_and (pe_callB (kc_isi (K := K)) (by rfl) T.isinstance (by decide +kernel) (pa_cons (pv 0) (pa_cons (pe_bltn (v := .ty "int") (by rfl) T.int (by decide +kernel) rfl) pa_nil))) (pe_and (pe_not (pe_callB (kc_isi (K := K)) (by rfl) T.isinstance (by decide +kernel) (pa_cons (pv 0) (pa_cons (pe_bltn (v := .ty "bool") (by rfl) T.bool (by decide +kernel) rfl) pa_nil)))) (pe_one (pe_chain op_le op_le (pv 1) (pv 0) pe_int)))))), ?_⟩
    refine ⟨_, rfl, _, .ty _, _, _, isIntD _, rfl, .ty _, tyx_dp dp, kit_int dp, _, rfl, ?_⟩
    have dp2 := dp
    cases dp with
    | int i =>
      refine iteT ⟨_, rfl, _, .ty _, _, _, isBoolD _, rfl, .ty _, tyx_dp dp2, kit_bool dp2, _, rfl, _, rfl, iteT ?_⟩
      refine ⟨_, rfl, _, rfl, _, _, rfl, rfl, _, rfl, ite2 (fun h1 => ⟨_, _, rfl, rfl, ?_⟩) (fun h1 => ?_)⟩
      · have e : numD lo 999 (.int i) = decide (i ≤ 999) := by show (decide (lo ≤ i) && _) = _; rw [h1]; rfl
        rw [e] at q; exact q
      · have e : numD lo 999 (.int i) = false := by show (decide (lo ≤ i) && _) = _; rw [Bool.not_eq_true _ |>.mp h1]; rfl
        rw [e] at q; exact q
    | bl b =>
      refine iteT ⟨_, rfl, _, .ty _, _, _, isBoolD _, rfl, .ty _, tyx_dp dp2, kit_bool dp2, _, rfl, _, rfl, iteF q⟩
    | non => exact iteF q
    | str _ => exact iteF q
    | lst _ _ => exact iteF q
    | tup _ _ => exact iteF q
abbrev s__law_is_one : Stmt := topS 19
def n__law_is_one : List Str := ["_law_thing", "_law_word", "_law_names", "_law_rest", "_law_name"]
theorem sc__law_is_one : FnScope n__law_is_one ["_law_thing"] (defScope s__law_is_one) := ⟨rfl, rfl, rfl, by decide +kernel, rfl, by decide +kernel, by decide +kernel⟩
theorem ok_one {f : Addr} {fd : FuncData} {k : Nat} (F : Fun K "_law_is_one" "_law_is_one" s__law_is_one f fd) (T : Txt mg) (c__law_is_name : Cl P w K mg base (k + 1) "_law_is_name" (spName K)) (c__law_is_count : Cl P w K mg base (k + 1) "_law_is_count" (spCnt K)) : FnOk P w K mg base CX0 (k + 2) f fd ["_law_thing"] (spDeed K) := by
  refine F.ok sc__law_is_one (fun vs H Q E h => ?_) (fun cdv A outer s H vs Q E hr h => ?_)
  · obtain ⟨x, d, m, rfl, _⟩ := h
    rfl
  · obtain ⟨x, d, m, rfl, dp, hg, q⟩ := h
    have nd := sc__law_is_one.nd
    refine ⟨_, (pss_cons (ps_if ((pw_or (pt_not (pt_val (pe_callB (kc_isi (K := K)) (by rfl) T.isinstance (by decide +kernel) (pa_cons (pv 0) (pa_cons (pe_bltn (v := .ty "tuple") (by rfl) T.tuple (by decide +kernel) rfl) pa_nil))))) (pw_or (pt_cmpR op_lt (pe_callB (kc_len (K := K)) (by rfl) T.len PySem.boot_len (pa_cons (pv 0) pa_nil)) pe_int (nomark _)) (pw_or1 (pt_not (pt_val (pe_callB (kc_isi (K := K)) (by rfl) T.isinstance (by decide +kernel) (pa_cons (pe_ix (kx_tup (K := K)) (pv 0) pe_int (fun _ _ => rfl)) (pa_cons (pe_bltn (v := .ty "str") (by rfl) T.str (by decide +kernel) rfl) pa_nil))))))))).pt
          (pss_one (ps_ret pe_bl))
          pss_nil)
      (pss_cons (ps_par3 (i := 1) (j := 2) (l := 3) rfl nd rfl rfl rfl (by decide) (by decide) (by decide) rfl rfl rfl (pa_cons (pe_ix (kx_tup (K := K)) (pv 0) pe_int (fun _ _ => rfl)) (pa_cons (pe_slice (kl_tup (K := K)) (pv 0) (po_some pe_int) po_none) (pa_cons (pe_lst pa_nil) pa_nil))) rfl)
      (pss_cons (ps_if ((pw_and (pt_cmpR (ko_in (K := K)) (pv 1) (pe_tup (pa_cons pe_str (pa_cons pe_str pa_nil))) rfl) (pw_and1 (pt_cmpR op_eq (pe_callB (kc_len (K := K)) (by rfl) T.len PySem.boot_len (pa_cons (pv 0) pa_nil)) pe_int (nomark _))))).pt
          (pss_one (ps_par (i := 2) (j := 3) rfl nd rfl rfl (by decide) rfl rfl (pa_cons (pe_slice (kl_tup (K := K)) (pv 0) (po_some pe_int) (po_some pe_int)) (pa_cons (pe_lst (pa_cons (pe_cl c__law_is_count hr (by omega) (by rfl) (pa_cons (pe_ix (kx_tup (K := K)) (pv 0) pe_int (fun _ _ => rfl)) (pa_cons pe_int pa_nil))) pa_nil)) pa_nil)) rfl))
          (pss_one (ps_if ((pw_and (pt_cmpR op_eq (pv 1) pe_str (nomark _)) (pw_and1 (pt_cmpR op_eq (pe_callB (kc_len (K := K)) (by rfl) T.len PySem.boot_len (pa_cons (pv 0) pa_nil)) pe_int (nomark _))))).pt
              (pss_one (ps_par (i := 2) (j := 3) rfl nd rfl rfl (by decide) rfl rfl (pa_cons (pe_slice (kl_tup (K := K)) (pv 0) (po_some pe_int) (po_some pe_int)) (pa_cons (pe_lst (pa_cons (pe_cl c__law_is_count hr (by omega) (by rfl) (pa_cons (pe_ix (kx_tup (K := K)) (pv 0) pe_int (fun _ _ => rfl)) (pa_cons pe_int pa_nil))) pa_nil)) pa_nil)) rfl))
              (pss_one (ps_if (pt_not ((pw_or ((pw_and (pt_cmpR op_eq (pv 1) pe_str (nomark _)) (pw_and1 (pt_cmpR op_eq (pe_callB (kc_len (K := K)) (by rfl) T.len PySem.boot_len (pa_cons (pv 0) pa_nil)) pe_int (nomark _))))).pt (pw_or1 ((pw_and (pt_cmpR (ko_in (K := K)) (pv 1) (pe_tup (pa_cons pe_str (pa_cons pe_str pa_nil))) rfl) (pw_and1 (pt_cmpR op_eq (pe_callB (kc_len (K := K)) (by rfl) T.len PySem.boot_len (pa_cons (pv 0) pa_nil)) pe_int (nomark _))))).pt))).pt)
                  (pss_one (ps_ret pe_bl))
                  pss_nil)))))
      (pss_one (ps_ret (pe_callB (kc_all (K := K)) (by rfl) T.all (by decide +kernel) (pa_cons (pe_op op_cat (pe_lc (own := [("_law_name", 4)]) rfl nd (ki_tup (K := K) (pv 2)) (blkOk_by (N := n__law_is_one) (sc := defScope s__law_is_one) (by decide +kernel)) (fun _ _ _ _ _ => (pg_name (i := 4) nd rfl (.inl rfl))) (fun _ _ _ _ _ => pts_nil) (fun _ _ _ _ _ => (pe_cl c__law_is_name hr (by omega) (by rfl) (pa_cons (pv 4) pa_nil)))) (pv 3)) pa_nil))))))), ?_⟩
    have dp2 := dp
    refine ⟨_, rfl, _, .ty _, _, _, isTupD _, rfl, .ty _, tyx_dp dp2, kit_tup dp2, _, rfl, ?_⟩
    cases dp with
    | @tup a xs ds hS hx =>
      have lx : xs.length = ds.length := dpAll_len hx
      refine iteF ?_
      refine ⟨_, rfl, _, _, rfl, .inr ⟨_, hS, rfl⟩, _, _, rfl, rfl, _, rfl, ite2 (fun h1 => ?_) (fun h1 => ?_)⟩
      · have h1 : ds.length < 2 := by have := of_decide_eq_true h1; omega
        rw [deed_short h1] at q
        exact q _ (Same.refl _)
      · have h2 : 2 ≤ ds.length := by
          have : ¬ ((xs.length : Nat) : Int) < 2 := fun e => h1 (decide_eq_true e)
          omega
        clear h1
        cases hx with
        | nil => simp at h2
        | cons dp0 hx =>
          rename_i x0 xr d0 dr
          have a0 : atI (x0 :: xr) 0 = some x0 := atI_nat (j := 0) rfl
          have lr : xr.length = dr.length := dpAll_len hx
          have hg2 := gdAll_iff.mp hg.2
          refine ⟨_, rfl, a, _, 0, _, rfl, rfl, hS, a0, _, .ty _, _, _, isStrD _, rfl, .ty _, tyx_dp dp0, kit_str dp0, _, rfl, ?_⟩
          cases dp0 with
          | str z =>
            refine iteF ?_
            have ec : cutV (V.str z :: xr) (some (1 : Int)) none = xr := cut_tail (k := 1)
            refine ⟨_, rfl, a, _, 0, _, rfl, rfl, hS, a0, _, rfl, 1, rfl, a, _, rfl, hS, fun z0 => ?_, fun _ u nu => ?_⟩
            · have h := z0.1
              rw [show HT.sIx (V.str z :: xr).length 0 (some 1) = min 1 (V.str z :: xr).length from HT.sIx_nat _ _ 1, List.length_cons] at h
              omega
            rw [ec]
            refine ⟨Nat.zero_le _, fun l nl => ⟨_, _, _, rfl, ?_⟩⟩
            have su := (same_upd (o := .tup xr) nu).trans (same_upd (o := .lst []) nl)
            have hu : upd (upd H u (.tup xr)) l (.lst []) u = some (.tup xr) := same_upd nl _ _ upd_same
            have hl : upd (upd H u (.tup xr)) l (.lst []) l = some (.lst []) := upd_same
            generalize upd (upd H u (.tup xr)) l (.lst []) = H1 at su hu hl ⊢
            simp only [List.set]
            refine seq_mid (fun σ Hx => ∃ na nx nds rl bs, σ = [some (.ref a), some (.str z), some (.ref na), some (.ref rl), none] ∧ Same H Hx ∧ SqT K Hx na nx ∧ DpAll K Hx nx nds ∧ (∀ d ∈ nds, gd m d) ∧ Hx rl = some (.lst (bs.map V.bl)) ∧ nds.length + bs.length ≤ 1000 ∧ deedD (.tuple (.str z :: dr)) = (nds.map nameD ++ bs).all id) (fun N hN => ?_) (fun σ Hx h => ?_)
            · have hS1 := same_tup su hS
              have hx1 := dpAll_same su hx
              have word2 : ∀ (p q : Str) (HX : Hp) (t : Addr), upd HX t (.tup [.str p, .str q]) t = some (.tup ([p, q].map V.str)) := fun p q HX t => upd_same
              by_cases C1 : (z = "wash" ∨ z = "new") ∧ dr.length = 2
              · obtain ⟨A, L⟩ := C1
                obtain ⟨d1, d2, rfl⟩ : ∃ d1 d2, dr = [d1, d2] := by
                  match dr, L with
                  | [a, b], _ => exact ⟨a, b, rfl⟩
                obtain ⟨x1, x2, rfl, q1, q2⟩ := dp_two hx1
                refine ⟨_, rfl, (by show 2 ≤ sizeLine; decide), fun t nt => ⟨t, _, rfl, .inr (.inl (.inl (word2 _ _ _ _))), rfl, rfl, _, rfl, ?_⟩⟩
                rw [if_neg Bool.false_ne_true, inV_strs, decide_eq_true (show z ∈ [Str.ofString "wash", Str.ofString "new"] by rcases A with rfl | rfl <;> simp)]
                have s2 := same_upd (o := .tup [.str "wash", .str "new"]) nt
                generalize upd H1 t (.tup [.str "wash", .str "new"]) = H2 at s2 ⊢
                refine iteT ⟨_, rfl, _, _, rfl, .inr ⟨_, same_tup s2 hS1, rfl⟩, rfl, _, rfl, iteT ?_⟩
                refine ⟨_, rfl, 1, rfl, 2, rfl, a, _, rfl, same_tup s2 hS1, (fun z0 => (sh_two (k := 0) (by show 3 ≤ 3; omega) z0).elim), fun _ n nn => ?_⟩
                rw [show cutV [V.str z, x1, x2] (some 1) (some 2) = [x1] from rfl]
                have sA := s2.trans (same_upd (o := .tup [x1]) nn)
                refine ⟨_, rfl, a, _, 2, _, rfl, rfl, same_tup sA hS1, rfl, x2, d2, 0, rfl, dp_same sA q2, (by show 1 ≤ sizeLine; decide), fun r nr => ⟨_, _, rfl, ?_⟩⟩
                have s4 := same_upd (o := .lst [.bl (numD 0 999 d2)]) nr
                exact hN _ _ ⟨n, [x1], [d1], r, [numD 0 999 d2], rfl, su.trans (sA.trans s4), .inl (.inl (s4 _ _ upd_same)), .cons (dp_same (sA.trans s4) q1) .nil, (fun d hd => by rw [List.mem_singleton.mp hd]; exact hg2 d1 (by simp)), upd_same, (by show 1 + 1 ≤ 1000; decide), deed_wash z A d1 d2⟩
              · have len_ne : ∀ {k : Nat} {q : Int}, q = k + 1 → dr.length ≠ k → ¬ V.int (((V.str z :: xr).length : Nat) : Int) = V.int q := fun eq n e => n (by have := V.int.inj e; rw [List.length_cons] at this; omega)
                refine ifs_alt (fun Hy sy => ?_) (fun alt => ?_)
                · have hS2 := same_tup sy hS1
                  have hx2 := dpAll_same sy hx1
                  have su2 := su.trans sy
                  have hl2 := sy _ _ hl
                  have hu2 := sy _ _ hu
                  by_cases C2 : z = "gather" ∧ dr.length = 4
                  · obtain ⟨rfl, L⟩ := C2
                    obtain ⟨d1, d2, d3, d4, rfl⟩ : ∃ d1 d2 d3 d4, dr = [d1, d2, d3, d4] := by
                      match dr, L with
                      | [a, b, c, d], _ => exact ⟨a, b, c, d, rfl⟩
                    obtain ⟨x1, x2, x3, x4, rfl, q1, q2, q3, q4⟩ := dp_four hx2
                    refine ⟨_, rfl, rfl, _, rfl, iteT ⟨_, rfl, _, _, rfl, .inr ⟨_, hS2, rfl⟩, rfl, _, rfl, iteT ?_⟩⟩
                    refine ⟨_, rfl, 1, rfl, 4, rfl, a, _, rfl, hS2, (fun z0 => (sh_two (k := 0) (by show 3 ≤ 5; omega) z0).elim), fun _ n nn => ?_⟩
                    rw [show cutV [V.str (Str.ofString "gather"), x1, x2, x3, x4] (some 1) (some 4) = [x1, x2, x3] from rfl]
                    have sA := same_upd (o := .tup [x1, x2, x3]) nn
                    refine ⟨_, rfl, a, _, 4, _, rfl, rfl, same_tup sA hS2, rfl, x4, d4, 1, rfl, dp_same sA q4, (by show 1 ≤ sizeLine; decide), fun r nr => ⟨_, _, rfl, ?_⟩⟩
                    have s4 := same_upd (o := .lst [.bl (numD 1 999 d4)]) nr
                    exact hN _ _ ⟨n, [x1, x2, x3], [d1, d2, d3], r, [numD 1 999 d4], rfl, su2.trans (sA.trans s4), .inl (.inl (s4 _ _ upd_same)), .cons (dp_same (sA.trans s4) q1) (.cons (dp_same (sA.trans s4) q2) (.cons (dp_same (sA.trans s4) q3) .nil)), (fun d hd => hg2 d (by simp at hd ⊢; rcases hd with rfl | rfl | rfl <;> simp)), upd_same, (by show 3 + 1 ≤ 1000; decide), deed_gather d1 d2 d3 d4⟩
                  · refine ifs_alt (fun Hz sz => ?_) (fun alt => ?_)
                    · have hS3 := same_tup sz hS2
                      have hx3 := dpAll_same sz hx2
                      have su3 := su2.trans sz
                      have hl3 := sz _ _ hl2
                      have hu3 := sz _ _ hu2
                      by_cases C3 : z = "fill" ∧ dr.length = 2
                      · obtain ⟨rfl, L⟩ := C3
                        obtain ⟨d1, d2, rfl⟩ : ∃ d1 d2, dr = [d1, d2] := by
                          match dr, L with
                          | [a, b], _ => exact ⟨a, b, rfl⟩
                        obtain ⟨x1, x2, rfl, q1, q2⟩ := dp_two hx3
                        refine ⟨_, rfl, rfl, _, rfl, iteT ⟨_, rfl, _, _, rfl, .inr ⟨_, hS3, rfl⟩, rfl, _, rfl, ?_⟩⟩
                        exact iteT (hN _ _ ⟨u, [x1, x2], [d1, d2], l, [], rfl, su3, .inl (.inl hu3), hx3, (fun d hd => hg2 d (by simp at hd ⊢; rcases hd with rfl | rfl <;> simp)), hl3, (by show 2 + 0 ≤ 1000; decide), deed_fill d1 d2⟩)
                      · refine ⟨_, rfl, rfl, _, rfl, ?_⟩
                        by_cases A : z = "fill"
                        · rw [decide_eq_true (congrArg V.str A)]
                          refine iteT ⟨_, rfl, _, _, rfl, .inr ⟨_, hS3, rfl⟩, rfl, _, rfl, ?_⟩
                          have := len_ne (k := 2) (q := 3) rfl fun e => C3 ⟨A, e⟩
                          rw [decide_eq_false this]
                          refine iteF ?_
                          refine ⟨_, rfl, (by show 2 ≤ sizeLine; decide), fun t nt => ⟨t, _, rfl, .inr (.inl (.inl (word2 _ _ _ _))), rfl, rfl, _, rfl, ?_⟩⟩
                          rw [if_neg Bool.false_ne_true, inV_strs]
                          have s2 := same_upd (o := .tup [.str "empty", .str "break"]) nt
                          generalize upd Hz t (.tup [.str "empty", .str "break"]) = H2 at s2 ⊢
                          by_cases A2 : z ∈ [Str.ofString "empty", Str.ofString "break"]
                          · rw [decide_eq_true A2]
                            refine iteT ⟨_, rfl, _, _, rfl, .inr ⟨_, same_tup s2 hS3, rfl⟩, rfl, _, rfl, ?_⟩
                            by_cases L : dr.length = 1
                            · obtain ⟨d1, rfl⟩ := List.length_eq_one_iff.mp L
                              obtain ⟨x1, rfl⟩ := List.length_eq_one_iff.mp lr
                              exact hN _ _ ⟨u, [x1], [d1], l, [], rfl, su3.trans s2, .inl (.inl (s2 _ _ hu3)), dpAll_same s2 hx3, (fun d hd => hg2 d (by simp at hd ⊢; rw [hd])), s2 _ _ hl3, (by show 1 + 0 ≤ 1000; decide), deed_one z (by simpa using A2) d1⟩
                            · rw [decide_eq_false (len_ne (k := 1) (q := 2) rfl L)]
                              rw [deed_no z dr C1 C2 C3 fun h => L h.2] at q
                              exact q _ (su3.trans s2)
                          · rw [decide_eq_false A2]
                            rw [deed_no z dr C1 C2 C3 fun h => A2 (by simpa using h.1)] at q
                            exact q _ (su3.trans s2)
                        · rw [decide_eq_false fun e => A (V.str.inj e)]
                          refine iteF ?_
                          refine ⟨_, rfl, (by show 2 ≤ sizeLine; decide), fun t nt => ⟨t, _, rfl, .inr (.inl (.inl (word2 _ _ _ _))), rfl, rfl, _, rfl, ?_⟩⟩
                          rw [if_neg Bool.false_ne_true, inV_strs]
                          have s2 := same_upd (o := .tup [.str "empty", .str "break"]) nt
                          generalize upd Hz t (.tup [.str "empty", .str "break"]) = H2 at s2 ⊢
                          by_cases A2 : z ∈ [Str.ofString "empty", Str.ofString "break"]
                          · rw [decide_eq_true A2]
                            refine iteT ⟨_, rfl, _, _, rfl, .inr ⟨_, same_tup s2 hS3, rfl⟩, rfl, _, rfl, ?_⟩
                            by_cases L : dr.length = 1
                            · obtain ⟨d1, rfl⟩ := List.length_eq_one_iff.mp L
                              obtain ⟨x1, rfl⟩ := List.length_eq_one_iff.mp lr
                              exact hN _ _ ⟨u, [x1], [d1], l, [], rfl, su3.trans s2, .inl (.inl (s2 _ _ hu3)), dpAll_same s2 hx3, (fun d hd => hg2 d (by simp at hd ⊢; rw [hd])), s2 _ _ hl3, (by show 1 + 0 ≤ 1000; decide), deed_one z (by simpa using A2) d1⟩
                            · rw [decide_eq_false (len_ne (k := 1) (q := 2) rfl L)]
                              rw [deed_no z dr C1 C2 C3 fun h => L h.2] at q
                              exact q _ (su3.trans s2)
                          · rw [decide_eq_false A2]
                            rw [deed_no z dr C1 C2 C3 fun h => A2 (by simpa using h.1)] at q
                            exact q _ (su3.trans s2)
                    · refine ⟨_, rfl, rfl, _, rfl, ?_⟩
                      by_cases A : z = "gather"
                      · rw [decide_eq_true (congrArg V.str A)]
                        refine iteT ⟨_, rfl, _, _, rfl, .inr ⟨_, hS2, rfl⟩, rfl, _, rfl, ?_⟩
                        have := len_ne (k := 4) (q := 5) rfl fun e => C2 ⟨A, e⟩
                        rw [decide_eq_false this]
                        exact iteF (alt _ (Same.refl _))
                      · rw [decide_eq_false fun e => A (V.str.inj e)]
                        exact iteF (alt _ (Same.refl _))
                · refine ⟨_, rfl, (by show 2 ≤ sizeLine; decide), fun t nt => ⟨t, _, rfl, .inr (.inl (.inl (word2 _ _ _ _))), rfl, rfl, _, rfl, ?_⟩⟩
                  rw [if_neg Bool.false_ne_true, inV_strs]
                  have s2 := same_upd (o := .tup [.str "wash", .str "new"]) nt
                  generalize upd H1 t (.tup [.str "wash", .str "new"]) = H2 at s2 ⊢
                  by_cases A : z ∈ [Str.ofString "wash", Str.ofString "new"]
                  · rw [decide_eq_true A]
                    refine iteT ⟨_, rfl, _, _, rfl, .inr ⟨_, same_tup s2 hS1, rfl⟩, rfl, _, rfl, ?_⟩
                    have := len_ne (k := 2) (q := 3) rfl fun e => C1 ⟨by simpa using A, e⟩
                    rw [decide_eq_false this]
                    exact iteF (alt _ s2)
                  · rw [decide_eq_false A]
                    exact iteF (alt _ s2)
            · obtain ⟨na, nx, nds, rl, bs, rfl, sx, hn, dn, gn, hr2, ln, e0⟩ := h
              rw [e0] at q
              have lnx : nx.length = nds.length := dpAll_len dn
              refine ⟨_, rfl, na, rfl, ⟨_, hn⟩, fun D nD => ?_⟩
              refine lc_it (walk_tup (xs := nx)) (PvL Hx D fun i => ((nds.map nameD).take i).map V.bl) (pv_start nD rfl) (fun i H4 _ h => same_tup h.1 hn) ?_ ?_
              · rintro i y H4 H5 hi p ⟨rfl, gx⟩
                obtain ⟨e, ge, pe⟩ := dpAll_at dn gx
                refine ⟨rfl, tYes_at ?_⟩
                rw [if_pos rfl]
                refine ⟨_, rfl, y, e, m, rfl, dp_same p.1 pe, gn e (List.mem_of_getElem? ge), fun H6 s6 => ?_⟩
                exact pv_put nD p s6 (take_map V.bl (by rw [List.getElem?_map, ge]; rfl)) (take_len_le (by rw [List.length_map]; omega))
              · intro H4 p
                obtain ⟨s4, hD⟩ := pv_end p (take_all (by rw [List.length_map, lnx]; exact Nat.le_refl _))
                refine ⟨_, rfl, D, rl, _, _, rfl, rfl, hD, s4 _ _ hr2, (by rw [List.length_map, List.length_map, List.length_map, sizeLine_eq]; omega), fun R nR => ?_⟩
                refine ⟨R, nds.map nameD ++ bs, rfl, SqL.of (by rw [upd_same, List.map_append]), ?_⟩
                exact q _ (sx.trans (s4.trans (same_upd nR)))
          | int _ => exact q _ (Same.refl _)
          | bl b => exact q _ (Same.refl _)
          | non => exact q _ (Same.refl _)
          | lst _ _ => exact q _ (Same.refl _)
          | tup _ _ => exact q _ (Same.refl _)
    | str z => exact q _ (Same.refl _)
    | int _ => exact q _ (Same.refl _)
    | bl b => exact q _ (Same.refl _)
    | non => exact q _ (Same.refl _)
    | lst _ _ => exact q _ (Same.refl _)

end
end Pot

namespace Pot
open PySem PySem.Spec PyProof.Rows L2
section
variable {P : Program} {w : World} {K : PySem.W.Frag} {mg : Str → Option Value} {base : Heap}
abbrev s__law_pick : Stmt := topS 14
def n__law_pick : List Str := ["_law_box", "_law_some"]
theorem sc__law_pick : FnScope n__law_pick ["_law_box", "_law_some"] (defScope s__law_pick) := ⟨rfl, rfl, rfl, by decide +kernel, rfl, by decide +kernel, by decide +kernel⟩
/-- a thing of a text or of a list, drawn -/
def PickQ (b : Addr) (n : Nat) (H : Hp) (Q : VK) (x : V) : Prop :=
  (∃ z : Str, x = .str z ∧ 0 < z.length ∧ z.length ≤ 1000 ∧ ∀ H' c, Bp H' b (n + 1) → Sm [b] H H' → c ∈ z.cps.toList → Q (.str ⟨#[c]⟩) H') ∨
  (∃ (L : Addr) (xs : List V), x = .ref L ∧ L ≠ b ∧ H L = some (.lst xs) ∧ 0 < xs.length ∧ xs.length ≤ 1000 ∧ ∀ H' (i : Nat) v, xs[i]? = some v → Bp H' b (n + 1) → Sm [b] H H' → Q v H')
def spPick : Sp := fun vs H Q _ => ∃ (b : Addr) (n : Nat) (x : V), vs = [.ref b, x] ∧ Bp H b n ∧ n < 2 ^ 40 ∧ PickQ b n H Q x
theorem ok_pick {f : Addr} {fd : FuncData} {k : Nat} (F : Fun K "_law_pick" "_law_pick" s__law_pick f fd) (T : Txt mg) (c__law_take : Cl P w K mg base (k + 1) "_law_take" spTake) : FnOk P w K mg base CX0 (k + 2) f fd ["_law_box", "_law_some"] spPick := by
  refine F.ok sc__law_pick (fun vs H Q E h => ?_) (fun cdv A outer s H vs Q E hr h => ?_)
  · obtain ⟨b, n, x, rfl, _⟩ := h
    rfl
  · obtain ⟨b, n, x, rfl, B, hn, h⟩ := h
    have nd := sc__law_pick.nd
    refine ⟨_, (pss_one (ps_ret (pe_ix (IxR.or ix_str (kx_list (K := K))) (pv 1) (pe_cl c__law_take hr (by omega) (by rfl) (pa_cons (pv 0) (pa_cons (pe_callB (kc_len (K := K)) (by rfl) T.len PySem.boot_len (pa_cons (pv 1) pa_nil)) pa_nil))) (fun _ _ => rfl)))), ?_⟩
    rcases h with ⟨z, rfl, z0, z1, q⟩ | ⟨L, xs, rfl, Lb, hL, x0, x1, q⟩
    · refine ⟨_, rfl, _, rfl, _, rfl, _, _, rfl, ⟨by rw [sizeLine_eq]; omega, rfl⟩, b, _, _, rfl, by omega, by omega, B, hn, fun H' r r0 r1 B' s' => ?_⟩
      obtain ⟨j, rfl⟩ : ∃ j : Nat, r = (j : Int) := ⟨r.toNat, by omega⟩
      have hj : j < z.cps.toList.length := by rw [Array.length_toList]; show j < z.length; omega
      exact .inl ⟨z, j, z.cps.toList[j], rfl, rfl, by rw [sizeLine_eq]; omega, atI_nat (List.getElem?_eq_getElem hj), q _ _ B' s' (List.getElem_mem hj)⟩
    · refine ⟨_, rfl, _, rfl, _, rfl, _, _, rfl, .inl ⟨_, SqL.of hL, rfl⟩, b, _, _, rfl, by omega, by omega, B, hn, fun H' r r0 r1 B' s' => ?_⟩
      obtain ⟨j, rfl⟩ : ∃ j : Nat, r = (j : Int) := ⟨r.toNat, by omega⟩
      have hj : j < xs.length := by omega
      exact .inr ⟨L, xs, j, xs[j], rfl, rfl, SqL.of (sm_at s' (by simp [Lb]) hL), atI_nat (List.getElem?_eq_getElem hj), q _ j _ (List.getElem?_eq_getElem hj) B' s'⟩
theorem ite_te {c : Bool} {ta tb : TE} {σ : L2.St} {H : Hp} {Q0 : VK} (G : V → Hp → Prop) (hx : ∀ Q1 : VK, (∀ x H, G x H → Q1 x H) → c = true → ta σ H Q1) (hy : ∀ Q1 : VK, (∀ x H, G x H → Q1 x H) → c = false → tb σ H Q1) (k : ∀ x H, G x H → Q0 x H) : if c = true then ta σ H Q0 else tb σ H Q0 := by
  cases c with
  | false => rw [if_neg Bool.false_ne_true]; exact hy Q0 k rfl
  | true => rw [if_pos rfl]; exact hx Q0 k rfl
abbrev s__law_some_names : Stmt := topS 15
def n__law_some_names : List Str := ["_law_box", "_law_many", "_law_letters", "_law_found", "_law_k", "_law_rest", "_law_at", "_law_first", "_law_sign"]
theorem sc__law_some_names : FnScope n__law_some_names ["_law_box", "_law_many"] (defScope s__law_some_names) := ⟨rfl, rfl, rfl, by decide +kernel, rfl, by decide +kernel, by decide +kernel⟩
def spSome : Sp := fun vs H Q _ => ∃ (b : Addr) (n : Nat), vs = [.ref b, .int 3] ∧ Bp H b n ∧ n + 2000 < 2 ^ 40 ∧
  ∀ (H' : Hp) (L : Addr) (ys : List Str), Bp H' b (n + 20) → Sm [b] H H' → H L = none → H' L = some (.lst (ys.map V.str)) → ys.length = 3 → (∀ y ∈ ys, Nm y) → Q (.ref L) H'
theorem ok_somen {f : Addr} {fd : FuncData} {k : Nat} (F : Fun K "_law_some_names" "_law_some_names" s__law_some_names f fd) (T : Txt mg) (c__law_take : Cl P w K mg base (k + 1) "_law_take" spTake) (c__law_pick : Cl P w K mg base (k + 2) "_law_pick" spPick) : FnOk P w K mg base CX0 (k + 3) f fd ["_law_box", "_law_many"] spSome := by
  refine F.ok sc__law_some_names (fun vs H Q E h => ?_) (fun cdv A outer s H vs Q E hr h => ?_)
  · obtain ⟨b, n, rfl, _⟩ := h
    rfl
  · obtain ⟨b, n, rfl, B, hn, q⟩ := h
    have nd := sc__law_some_names.nd
    /- 0 _law_box, 1 _law_many, 2 _law_letters, 3 _law_found, 4 _law_k, 5 _law_rest, 6 _law_at, 7 _law_first, 8 _law_sign -/
    refine ⟨_, (pss_cons (ps_asg (pe_tup (pa_cons pe_str (pa_cons (pe_lst pa_nil) pa_nil))) (kg_tup (K := K) (n := 2) (pgs_cons (pg_name (i := 2) nd rfl (.inr rfl)) (pgs_cons (pg_name (i := 3) nd rfl (.inl rfl)) pgs_nil))))
      (pss_cons (ps_set (i := 5) nd rfl (.inl rfl) (ke_join (K := K) pe_str (pe_lc (own := [("_law_k", 4)]) rfl nd (pi_range1 (by rfl) T.range (pa_cons (pe_cl c__law_take hr (by omega) (by rfl) (pa_cons (pv 0) (pa_cons pe_int pa_nil))) pa_nil)) (blkOk_by (N := n__law_some_names) (sc := defScope s__law_some_names) (by decide +kernel)) (fun _ _ _ _ _ => (pg_name (i := 4) nd rfl (.inl rfl))) (fun _ _ _ _ _ => pts_nil) (fun _ _ _ _ _ => (pe_cl c__law_pick hr (by omega) (by rfl) (pa_cons (pv 0) (pa_cons (pv 2) pa_nil)))))))
      (pss_cons (ps_par (i := 6) (j := 7) rfl nd rfl rfl (by decide) rfl rfl (pa_cons (pe_cl c__law_take hr (by omega) (by rfl) (pa_cons (pv 0) (pa_cons (pe_op op_add (pe_callB (kc_len (K := K)) (by rfl) T.len PySem.boot_len (pa_cons (pv 5) pa_nil)) pe_int) pa_nil))) (pa_cons (pe_cl c__law_take hr (by omega) (by rfl) (pa_cons (pv 0) (pa_cons pe_int pa_nil))) pa_nil)) rfl)
      (pss_cons (ps_for PassesOwn.never rfl (pi_range1 (by rfl) T.range (pa_cons (pv 1) pa_nil)) (pg_name (i := 4) nd rfl (.inl rfl))
          (pss_cons (ps_set (i := 8) nd rfl (.inl rfl) (pe_ix ix_str (pv 2) (pe_op op_mod (pe_op op_add (pv 7) (pe_op op_mul pe_int (pv 4))) pe_int) (fun _ _ => rfl)))
          (pss_one (ps_expr (pe_bm PySem.F.plainAttrs_list PySem.F.slot_list_insert PySem.F.type_list_insert mt_insert (pv 3) (pa_cons (pe_cl c__law_take hr (by omega) (by rfl) (pa_cons (pv 0) (pa_cons (pe_op op_add (pv 4) pe_int) pa_nil))) (pa_cons (pe_ifExp (pt_cmpR op_eq (pe_op op_mod (pv 4) pe_int) pe_int (nomark _)) (pv 8) (pe_op op_add_str (pe_op op_add_str (pe_slice sl_str (pv 5) po_none (po_some (pv 6))) (pv 8)) (pe_slice sl_str (pv 5) (po_some (pv 6)) po_none))) pa_nil)))))))
      (pss_one (ps_ret (pv 3))))))), ?_⟩
    have lv := Live.pw B
    have sc : Sm [b] H H := Same.refl _
    obtain ⟨S, eS⟩ : ∃ S, S = [b] := ⟨_, rfl⟩
    have hb : b ∈ S := by rw [eS]; simp
    rw [← eS] at lv
    refine ⟨Nat.zero_le _, fun L nL => ?_⟩
    have nL0 := sm_free sc B.bx nL
    have Lb := B.ne nL
    have fL := off_new (o := .lst []) lv nL
    have lv := lv.put (o := .lst []) nL
    have B := B.put (o := .lst []) nL
    have sc := sc.trans (sm_put (S := [b]) (o := .lst []) nL)
    generalize upd H L (.lst []) = H1 at fL lv B sc  ⊢
    refine ⟨(by show 2 ≤ sizeLine; decide), fun t nt => ?_⟩
    have ft := off_new (o := .tup [.str "abcdefghijklmnopqrstuvwxyz", .ref L]) lv nt
    have lv := lv.put (o := .tup [.str "abcdefghijklmnopqrstuvwxyz", .ref L]) nt
    have B := B.put (o := .tup [.str "abcdefghijklmnopqrstuvwxyz", .ref L]) nt
    have sc := sc.trans (sm_put (S := [b]) (o := .tup [.str "abcdefghijklmnopqrstuvwxyz", .ref L]) nt)
    have fL := (sm_put (S := S) (o := .tup [.str "abcdefghijklmnopqrstuvwxyz", .ref L]) nt) _ _ fL
    generalize upd H1 t (.tup [.str "abcdefghijklmnopqrstuvwxyz", .ref L]) = H2 at ft lv B sc fL ⊢
    refine ⟨t, _, rfl, .inl (.inl (at_off ft)), rfl, _, _, rfl, _, _, rfl, rfl, ?_⟩
    refine ⟨⟨_, rfl⟩, _, rfl, b, 8, _, rfl, (by decide), (by decide), B, by omega, fun H6 sn s0 s1 B4 s4 => ⟨_, rfl, (by omega), (by omega), fun D nD => ?_⟩⟩
    have lv := lv.box B4.bx s4
    have sc := sc.trans s4
    have B := B4
    have fL := (sm_one hb s4) _ _ fL
    have nDb := B.ne nD
    refine lc_it walk_range (fun i H5 => Bp H5 b (n + 1 + i) ∧ Sm [b] H6 H5 ∧ ∃ ys : List Str, H5 D = some (.lst (ys.map V.str)) ∧ ys.length = i ∧ ∀ y ∈ ys, Wd 1 y) ⟨(B.put nD).mono (by omega), sm_put nD, [], upd_same, rfl, fun _ h => (List.not_mem_nil h).elim⟩ (fun _ _ _ _ => trivial) ?_ ?_
    · rintro i x H5 H6 hi ⟨B5, s5, ys, hL, hy, hw⟩ ⟨rfl, rfl⟩
      refine ⟨rfl, tYes_at ?_⟩
      rw [if_pos rfl]
      have az : ∀ c ∈ (Str.ofString "abcdefghijklmnopqrstuvwxyz").cps.toList, 97 ≤ c ∧ c ≤ 122 := by decide +kernel
      refine ⟨_, rfl, _, rfl, b, _, _, rfl, B5, by omega, .inl ⟨_, rfl, by decide +kernel, by decide +kernel, fun H7 c B7 s7 hc => ⟨_, sm1_at s7 nDb hL, ?_, (B7.wr nDb).mono (by omega), smp (s5.trans s7) nD, ys ++ [⟨#[c]⟩], ?_, ?_, ?_⟩⟩⟩
      · rw [List.length_map, hy]; exact Nat.lt_of_lt_of_le (show i < 8 by omega) (by decide)
      · rw [upd_same, List.map_append]; rfl
      · rw [List.length_append, hy]; rfl
      · intro y h
        rcases List.mem_append.mp h with h | h
        · exact hw y h
        · rw [List.mem_singleton.mp h]; exact wd_sign (az c hc).1 (az c hc).2
    rintro H7 ⟨B5, s5, ys, hD, hy, hw⟩
    have lv := lv.box B5.bx s5
    have sc := sc.trans s5
    have B := B5
    have fL := (sm_one hb s5) _ _ fL
    have hy7 : ys.length ≤ 7 := by omega
    refine ⟨_, D, ys, rfl, rfl, .inl (SqL.of hD), ?_, ?_⟩
    · have := wd1_sum hw
      show _ + ys.length * 0 ≤ _
      omega
    have hst : Wd 7 (Txt.join (Str.ofString "") ys) := by rw [TL.join_eq]; exact (wd_join hw).mono hy7
    have B := B.mono (show _ ≤ n + 8 by omega)
    generalize Txt.join (Str.ofString "") ys = st at hst ⊢
    clear hD hy hw hy7
    refine ⟨_, rfl, _, rfl, _, _, rfl, ⟨wd_small hst (by decide), rfl⟩, _, _, rfl, rfl, b, _, _, rfl, (by have := hst.1; omega), (by have := hst.1; omega), B, by omega, fun H8 a a0 a1 B8 s8 => ?_⟩
    have lv := lv.box B8.bx s8
    have sc := sc.trans s8
    have B := B8
    have fL := (sm_one hb s8) _ _ fL
    refine ⟨_, rfl, b, 26, _, rfl, (by decide), (by decide), B, by omega, fun H9 fi f0 f1 B9 s9 => ⟨_, _, rfl, ?_⟩⟩
    have lv := lv.box B9.bx s9
    have sc := sc.trans s9
    have B := B9
    have fL := (sm_one hb s9) _ _ fL
    obtain ⟨a, rfl⟩ : ∃ a2 : Nat, a = (a2 : Int) := ⟨a.toNat, by omega⟩
    have hL := at_off fL
    refine ⟨_, rfl, _, rfl, (by decide), (by decide), ?_⟩
    refine for_it walk_range (fun i σ H3 => ∃ v4 v8, σ = [some (.ref b), some (.int 3), some (.str "abcdefghijklmnopqrstuvwxyz"), some (.ref L), v4, some (.str st), some (.int (a : Nat)), some (.int fi), v8] ∧ Bp H3 b (n + 10 + i) ∧ Sm [b] H H3 ∧ ∃ ys : List Str, H3 L = some (.lst (ys.map V.str)) ∧ ys.length = i ∧ ∀ y ∈ ys, Nm y)
      ⟨_, _, rfl, B.mono (by omega), sc, [], hL, rfl, (fun _ h => (List.not_mem_nil h).elim)⟩ (fun _ _ _ _ _ => trivial) ?_ ?_
    · rintro i x σ H11 H12 hi ⟨v4, v8, rfl, B, sc, ys, hL, hy, hw⟩ ⟨rfl, rfl⟩
      have hi3 : i < 3 := hi
      have nn : 0 ≤ (fi + 7 * (0 + (i : Int))) % 26 := Int.emod_nonneg _ (by decide)
      have nn1 : (fi + 7 * (0 + (i : Int))) % 26 < 26 := Int.emod_lt_of_pos _ (by decide)
      have wl := wd_letter nn nn1
      refine ⟨_, rfl, _, rfl, _, rfl, _, _, rfl, rfl, .inl ⟨by decide, by decide⟩, _, _, rfl, rfl, _, _, rfl, rfl, (by show (0 : Int) < 26; decide), _, _, _, rfl, rfl, (by decide +kernel), az_ix nn nn1, ?_⟩
      generalize (97 + ((fi + 7 * (0 + (i : Int))) % 26).toNat) = sg at wl ⊢
      refine ⟨_, rfl, .inl ⟨rfl, _, SqL.of hL⟩, _, rfl, _, rfl, _, _, rfl, rfl, b, _, _, rfl, by omega, by omega, B, by omega, fun H5 r r0 r1 B5 s5 => ?_⟩
      have hL := sm_at s5 (by simp [Lb]) hL
      refine ⟨_, rfl, _, _, rfl, rfl, (by show (0 : Int) < 3; decide), rfl, _, rfl, ite_te (fun x Hx => ∃ nm : Str, x = .str nm ∧ Nm nm ∧ Hx = H5) (fun Q1 kk hh => ?_) (fun Q1 kk hh => ?_) ?_⟩
      · exact ⟨_, rfl, kk _ _ ⟨_, rfl, ⟨wl.mono (by decide), by show 0 < 1; decide⟩, rfl⟩⟩
      · have h6 := hst.1
        have l1 := cut_small st none (some (a : Int))
        have l2 := cut_small st (some (a : Int)) none
        have w1 := wd_cut (lo := none) (hi := some (a : Int)) hst
        have lcut : (cutS st none (some (a : Int))).length + (cutS st (some (a : Int)) none).length ≤ 7 := by
          have h1 := cut_len st none (some (a : Int))
          have h2 := cut_len st (some (a : Int)) none
          rw [HT.sIx_nat, HT.sIx_none] at h1
          rw [HT.sIx_nat, HT.sIx_none] at h2
          omega
        refine ⟨_, rfl, _, rfl, _, rfl, _, rfl, wd_small hst (by decide), _, rfl, _, _, rfl, rfl, ?_, ?_⟩
        · show _ + 1 ≤ sizeLine
          rw [sizeLine_eq]; omega
        refine ⟨_, rfl, _, rfl, _, rfl, _, rfl, wd_small hst (by decide), _, _, rfl, rfl, ?_, ?_⟩
        · rw [strLen_append, sizeLine_eq]
          show _ + 1 + _ ≤ _
          omega
        have lon : (cutS st none (some (a : Int)) ++ (⟨#[sg]⟩ : Str) ++ cutS st (some (a : Int)) none).length = (cutS st none (some (a : Int))).length + 1 + (cutS st (some (a : Int)) none).length := by rw [strLen_append, strLen_append]; rfl
        exact kk _ _ ⟨_, rfl, ⟨⟨by omega, fun c hc => (wd_add (wd_add w1 wl) (wd_cut (lo := some (a : Int)) (hi := none) hst)).2 c hc⟩, by omega⟩, rfl⟩
      rintro x Hx ⟨nm, rfl, hnm, rfl⟩
      refine ⟨L, _, r, _, rfl, rfl, hL, (by rw [List.length_map, sizeLine_eq]; omega), r0, by omega, ?_⟩
      refine ⟨_, _, rfl, (B5.wr Lb).mono (by omega), smp (sc.trans s5) nL0, ys.take r.toNat ++ [nm] ++ ys.drop r.toNat, by rw [upd_same, List.map_append, List.map_append, List.map_take, List.map_drop]; rfl, by rw [List.length_append, List.length_append, List.length_take, List.length_drop]; show _ + 1 + _ = _; omega, fun y h => ?_⟩
      rcases List.mem_append.mp h with h | h
      · rcases List.mem_append.mp h with h | h
        · exact hw y (List.mem_of_mem_take h)
        · rw [List.mem_singleton.mp h]; exact hnm
      · exact hw y (List.mem_of_mem_drop h)
    · rintro σ H11 ⟨v4, v8, rfl, B, sc, ys, hL, hy, hw⟩
      exact ⟨_, rfl, q _ L ys (B.mono (by omega)) sc nL0 hL hy hw⟩

end
end Pot

namespace Pot
open PySem PySem.Spec PyProof.Rows L2
section
variable {P : Program} {w : World} {K : PySem.W.Frag} {mg : Str → Option Value} {base : Heap}
theorem nm_true {z : Str} (h : Nm z) : nameD (.str z) = true := by
  show (decide _ && (decide _ && _)) = true
  have h1 := h.2
  have h2 := h.1.1
  rw [decide_eq_true (show (1 : Int) ≤ (z.length : Nat) by omega), decide_eq_true (show ((z.length : Nat) : Int) ≤ 8 by omega), Bool.true_and, Bool.true_and, List.all_eq_true]
  intro c hc
  have h3 := h.1.2 c hc
  have : ∀ c, c < 123 → 97 ≤ c → decide (c ∈ abc.cps.toList) = true := by decide +kernel
  exact this c (by omega) h3.1
theorem num_true {lo hi i : Int} (h1 : lo ≤ i) (h2 : i ≤ hi) : numD lo hi (.int i) = true := by
  show (decide _ && decide _) = true
  rw [decide_eq_true h1, decide_eq_true h2]; rfl
/-- bounds of a deed that is drawn -/
def DdOk (ds : List PyData) : Prop := Bds 9 1000 2400 0 5 ds ∧ ds.length ≤ 5 ∧ 1 ≤ ds.length
abbrev s__law_any_deed : Stmt := topS 16
def n__law_any_deed : List Str := ["_law_box", "_law_names", "_law_number", "_law_some"]
theorem sc__law_any_deed : FnScope n__law_any_deed ["_law_box"] (defScope s__law_any_deed) := ⟨rfl, rfl, rfl, by decide +kernel, rfl, by decide +kernel, by decide +kernel⟩
def spAny (K : PySem.W.Frag) : Sp := fun vs H Q _ => ∃ (b : Addr) (n : Nat), vs = [.ref b] ∧ Bp H b n ∧ n + 3000 < 2 ^ 40 ∧
  ∀ (H' : Hp) (p : Addr) (xs : List V) (ds : List PyData), Bp H' b (n + 30) → Sm [b] H H' → SqT K (off H' [b]) p xs → DpAll K (off H' [b]) xs ds → deedD (.tuple ds) = true → DdOk ds → Q (.ref p) H'
theorem ok_any {f : Addr} {fd : FuncData} {k : Nat} (F : Fun K "_law_any_deed" "_law_any_deed" s__law_any_deed f fd) (T : Txt mg) (c__law_take : Cl P w K mg base (k + 1) "_law_take" spTake) (c__law_some_names : Cl P w K mg base (k + 3) "_law_some_names" spSome) : FnOk P w K mg base CX0 (k + 4) f fd ["_law_box"] (spAny K) := by
  refine F.ok sc__law_any_deed (fun vs H Q E h => ?_) (fun cdv A outer s H vs Q E hr h => ?_)
  · obtain ⟨b, n, rfl, _⟩ := h
    rfl
  · obtain ⟨b, n, rfl, B, hn, q⟩ := h
    have nd := sc__law_any_deed.nd
    /- 0 _law_box, 1 _law_names, 2 _law_number, 3 _law_some -/
    refine ⟨_, (pss_cons (ps_par (i := 1) (j := 2) rfl nd rfl rfl (by decide) rfl rfl (pa_cons (pe_cl c__law_some_names hr (by omega) (by rfl) (pa_cons (pv 0) (pa_cons pe_int pa_nil))) (pa_cons (pe_ix (kx_list (K := K)) (pe_lst (pa_cons pe_int (pa_cons pe_int (pa_cons (pe_cl c__law_take hr (by omega) (by rfl) (pa_cons (pv 0) (pa_cons pe_int pa_nil))) pa_nil)))) (pe_cl c__law_take hr (by omega) (by rfl) (pa_cons (pv 0) (pa_cons pe_int pa_nil))) (fun _ _ => rfl)) pa_nil)) rfl)
      (pss_cons (ps_set (i := 3) nd rfl (.inl rfl) (pe_lst (pa_cons (pe_tup (pa_cons pe_str (pa_cons (pe_ix (kx_list (K := K)) (pv 1) pe_int (fun _ _ => rfl)) (pa_cons (pe_ix (kx_list (K := K)) (pv 1) pe_int (fun _ _ => rfl)) pa_nil)))) (pa_cons (pe_tup (pa_cons pe_str (pa_cons (pe_ix (kx_list (K := K)) (pv 1) pe_int (fun _ _ => rfl)) (pa_cons (pv 2) pa_nil)))) (pa_cons (pe_tup (pa_cons pe_str (pa_cons (pe_ix (kx_list (K := K)) (pv 1) pe_int (fun _ _ => rfl)) pa_nil))) (pa_cons (pe_tup (pa_cons pe_str (pa_cons (pe_ix (kx_list (K := K)) (pv 1) pe_int (fun _ _ => rfl)) (pa_cons (pv 2) pa_nil)))) pa_nil))))))
      (pss_cons (ps_set (i := 3) nd rfl (.inl rfl) (pe_op op_cat (pv 3) (pe_lst (pa_cons (pe_tup (pa_cons pe_str (pa_cons (pe_ix (kx_list (K := K)) (pv 1) pe_int (fun _ _ => rfl)) (pa_cons (pe_ix (kx_list (K := K)) (pv 1) pe_int (fun _ _ => rfl)) (pa_cons (pe_ix (kx_list (K := K)) (pv 1) pe_int (fun _ _ => rfl)) (pa_cons (pe_callB (call_max2 rfl) (by rfl) T.max (by decide +kernel) (pa_cons pe_int (pa_cons (pv 2) pa_nil))) pa_nil)))))) (pa_cons (pe_tup (pa_cons pe_str (pa_cons (pe_ix (kx_list (K := K)) (pv 1) pe_int (fun _ _ => rfl)) pa_nil))) pa_nil)))))
      (pss_one (ps_ret (pe_ix (kx_list (K := K)) (pv 3) (pe_cl c__law_take hr (by omega) (by rfl) (pa_cons (pv 0) (pa_cons pe_int pa_nil))) (fun _ _ => rfl))))))), ?_⟩
    have lv := Live.pw B
    have sc : Sm [b] H H := Same.refl _
    obtain ⟨S, eS⟩ : ∃ S, S = [b] := ⟨_, rfl⟩
    have hb : b ∈ S := by rw [eS]; simp
    rw [← eS] at lv
    refine ⟨_, rfl, b, n, rfl, B, by omega, fun H1 L ys B1 s1 nL hL ly hy => ?_⟩
    obtain ⟨n0, n1, n2, rfl⟩ : ∃ n0 n1 n2, ys = [n0, n1, n2] := by
      match ys, ly with
      | [a, b, c], _ => exact ⟨a, b, c, rfl⟩
    have Lb : L ≠ b := B.ne nL
    have fL : off H1 S L = some (.lst [.str n0, .str n1, .str n2]) := by rw [eS, off_out (by simp [Lb])]; exact hL
    have lv := lv.box B1.bx s1
    have sc := sc.trans s1
    have B := B1
    refine ⟨_, rfl, b, 1000, _, rfl, (by decide), (by decide), B, by omega, fun H2 r r0 r1 B2 s2 => ⟨(by show 3 ≤ sizeLine; decide), fun l0 nl0 => ?_⟩⟩
    have lv := lv.box B2.bx s2
    have sc := sc.trans s2
    have B := B2
    have fL := (sm_one hb s2) _ _ fL
    have f0 := off_new (o := .lst [.int 0, .int 999, .int r]) lv nl0
    have lv := lv.put (o := .lst [.int 0, .int 999, .int r]) nl0
    have B := B.put (o := .lst [.int 0, .int 999, .int r]) nl0
    have sc := sc.trans (sm_put (S := [b]) (o := .lst [.int 0, .int 999, .int r]) nl0)
    have fL := (sm_put (S := S) (o := .lst [.int 0, .int 999, .int r]) nl0) _ _ fL
    generalize upd H2 l0 (.lst [.int 0, .int 999, .int r]) = H3 at f0 lv B sc fL ⊢
    refine ⟨_, rfl, b, 3, _, rfl, (by decide), (by decide), B, by omega, fun H4 r2 r20 r21 B4 s4 => ?_⟩
    have lv := lv.box B4.bx s4
    have sc := sc.trans s4
    have B := B4
    have f0 := (sm_one hb s4) _ _ f0
    have fL := (sm_one hb s4) _ _ fL
    obtain ⟨nb, enb, nb0, nb9⟩ : ∃ nb : Int, atI [V.int 0, .int 999, .int r] r2 = some (.int nb) ∧ 0 ≤ nb ∧ nb ≤ 999 := by
      have h : r2 = 0 ∨ r2 = 1 ∨ r2 = 2 := by omega
      rcases h with rfl | rfl | rfl
      · exact ⟨_, rfl, by decide, by decide⟩
      · exact ⟨_, rfl, by decide, by decide⟩
      · exact ⟨_, rfl, r0, by omega⟩
    refine ⟨l0, _, r2, _, rfl, rfl, SqL.of (at_off f0), enb, _, _, rfl, ?_⟩
    refine ⟨_, rfl, L, _, 0, _, rfl, rfl, SqL.of (at_off fL), rfl, _, rfl, L, _, 1, _, rfl, rfl, SqL.of (at_off fL), rfl, (by show 3 ≤ sizeLine; decide), fun t1 nt1 => ?_⟩
    have g1 := off_new (o := .tup [.str "fill", .str n0, .str n1]) lv nt1
    have lv := lv.put (o := .tup [.str "fill", .str n0, .str n1]) nt1
    have B := B.put (o := .tup [.str "fill", .str n0, .str n1]) nt1
    have sc := sc.trans (sm_put (S := [b]) (o := .tup [.str "fill", .str n0, .str n1]) nt1)
    have fL := (sm_put (S := S) (o := .tup [.str "fill", .str n0, .str n1]) nt1) _ _ fL
    generalize upd H4 t1 (.tup [.str "fill", .str n0, .str n1]) = H5 at g1 lv B sc fL ⊢
    refine ⟨_, rfl, L, _, 0, _, rfl, rfl, SqL.of (at_off fL), rfl, _, rfl, (by show 3 ≤ sizeLine; decide), fun t2 nt2 => ?_⟩
    have g2 := off_new (o := .tup [.str "wash", .str n0, .int nb]) lv nt2
    have lv := lv.put (o := .tup [.str "wash", .str n0, .int nb]) nt2
    have B := B.put (o := .tup [.str "wash", .str n0, .int nb]) nt2
    have sc := sc.trans (sm_put (S := [b]) (o := .tup [.str "wash", .str n0, .int nb]) nt2)
    have g1 := (sm_put (S := S) (o := .tup [.str "wash", .str n0, .int nb]) nt2) _ _ g1
    have fL := (sm_put (S := S) (o := .tup [.str "wash", .str n0, .int nb]) nt2) _ _ fL
    generalize upd H5 t2 (.tup [.str "wash", .str n0, .int nb]) = H6 at g2 lv B sc g1 fL ⊢
    refine ⟨_, rfl, L, _, 0, _, rfl, rfl, SqL.of (at_off fL), rfl, (by show 2 ≤ sizeLine; decide), fun t3 nt3 => ?_⟩
    have g3 := off_new (o := .tup [.str "empty", .str n0]) lv nt3
    have lv := lv.put (o := .tup [.str "empty", .str n0]) nt3
    have B := B.put (o := .tup [.str "empty", .str n0]) nt3
    have sc := sc.trans (sm_put (S := [b]) (o := .tup [.str "empty", .str n0]) nt3)
    have g1 := (sm_put (S := S) (o := .tup [.str "empty", .str n0]) nt3) _ _ g1
    have g2 := (sm_put (S := S) (o := .tup [.str "empty", .str n0]) nt3) _ _ g2
    have fL := (sm_put (S := S) (o := .tup [.str "empty", .str n0]) nt3) _ _ fL
    generalize upd H6 t3 (.tup [.str "empty", .str n0]) = H7 at g3 lv B sc g1 g2 fL ⊢
    refine ⟨_, rfl, L, _, 0, _, rfl, rfl, SqL.of (at_off fL), rfl, _, rfl, (by show 3 ≤ sizeLine; decide), fun t4 nt4 => ⟨(by show 4 ≤ sizeLine; decide), fun l1 nl1 => ?_⟩⟩
    have g4 := off_new (o := .tup [.str "new", .str n0, .int nb]) lv nt4
    have lv := lv.put (o := .tup [.str "new", .str n0, .int nb]) nt4
    have B := B.put (o := .tup [.str "new", .str n0, .int nb]) nt4
    have sc := sc.trans (sm_put (S := [b]) (o := .tup [.str "new", .str n0, .int nb]) nt4)
    have g1 := (sm_put (S := S) (o := .tup [.str "new", .str n0, .int nb]) nt4) _ _ g1
    have g2 := (sm_put (S := S) (o := .tup [.str "new", .str n0, .int nb]) nt4) _ _ g2
    have g3 := (sm_put (S := S) (o := .tup [.str "new", .str n0, .int nb]) nt4) _ _ g3
    have fL := (sm_put (S := S) (o := .tup [.str "new", .str n0, .int nb]) nt4) _ _ fL
    generalize upd H7 t4 (.tup [.str "new", .str n0, .int nb]) = H8 at g4 lv B sc nl1 g1 g2 g3 fL ⊢
    have f1 := off_new (o := .lst [.ref t1, .ref t2, .ref t3, .ref t4]) lv nl1
    have lv := lv.put (o := .lst [.ref t1, .ref t2, .ref t3, .ref t4]) nl1
    have B := B.put (o := .lst [.ref t1, .ref t2, .ref t3, .ref t4]) nl1
    have sc := sc.trans (sm_put (S := [b]) (o := .lst [.ref t1, .ref t2, .ref t3, .ref t4]) nl1)
    have g1 := (sm_put (S := S) (o := .lst [.ref t1, .ref t2, .ref t3, .ref t4]) nl1) _ _ g1
    have g2 := (sm_put (S := S) (o := .lst [.ref t1, .ref t2, .ref t3, .ref t4]) nl1) _ _ g2
    have g3 := (sm_put (S := S) (o := .lst [.ref t1, .ref t2, .ref t3, .ref t4]) nl1) _ _ g3
    have g4 := (sm_put (S := S) (o := .lst [.ref t1, .ref t2, .ref t3, .ref t4]) nl1) _ _ g4
    have fL := (sm_put (S := S) (o := .lst [.ref t1, .ref t2, .ref t3, .ref t4]) nl1) _ _ fL
    generalize upd H8 l1 (.lst [.ref t1, .ref t2, .ref t3, .ref t4]) = H9 at f1 lv B sc g1 g2 g3 g4 fL ⊢
    obtain ⟨mx, emx, mx0, mx9⟩ : ∃ mx : Int, (if nb > 1 then nb else 1) = mx ∧ 1 ≤ mx ∧ mx ≤ 999 := ⟨_, rfl, by split <;> omega, by split <;> omega⟩
    refine ⟨_, rfl, _, rfl, L, _, 0, _, rfl, rfl, SqL.of (at_off fL), rfl, _, rfl, L, _, 1, _, rfl, rfl, SqL.of (at_off fL), rfl, _, rfl, L, _, 2, _, rfl, rfl, SqL.of (at_off fL), rfl, _, rfl, _, _, rfl, (by show 5 ≤ sizeLine; decide), fun t5 nt5 => ?_⟩
    rw [emx]
    have g5 := off_new (o := .tup [.str "gather", .str n0, .str n1, .str n2, .int mx]) lv nt5
    have lv := lv.put (o := .tup [.str "gather", .str n0, .str n1, .str n2, .int mx]) nt5
    have B := B.put (o := .tup [.str "gather", .str n0, .str n1, .str n2, .int mx]) nt5
    have sc := sc.trans (sm_put (S := [b]) (o := .tup [.str "gather", .str n0, .str n1, .str n2, .int mx]) nt5)
    have f1 := (sm_put (S := S) (o := .tup [.str "gather", .str n0, .str n1, .str n2, .int mx]) nt5) _ _ f1
    have g1 := (sm_put (S := S) (o := .tup [.str "gather", .str n0, .str n1, .str n2, .int mx]) nt5) _ _ g1
    have g2 := (sm_put (S := S) (o := .tup [.str "gather", .str n0, .str n1, .str n2, .int mx]) nt5) _ _ g2
    have g3 := (sm_put (S := S) (o := .tup [.str "gather", .str n0, .str n1, .str n2, .int mx]) nt5) _ _ g3
    have g4 := (sm_put (S := S) (o := .tup [.str "gather", .str n0, .str n1, .str n2, .int mx]) nt5) _ _ g4
    have fL := (sm_put (S := S) (o := .tup [.str "gather", .str n0, .str n1, .str n2, .int mx]) nt5) _ _ fL
    generalize upd H9 t5 (.tup [.str "gather", .str n0, .str n1, .str n2, .int mx]) = HA at g5 lv B sc f1 g1 g2 g3 g4 fL ⊢
    refine ⟨_, rfl, L, _, 0, _, rfl, rfl, SqL.of (at_off fL), rfl, (by show 2 ≤ sizeLine; decide), fun t6 nt6 => ⟨(by show 2 ≤ sizeLine; decide), fun l2 nl2 => ?_⟩⟩
    have g6 := off_new (o := .tup [.str "break", .str n0]) lv nt6
    have lv := lv.put (o := .tup [.str "break", .str n0]) nt6
    have B := B.put (o := .tup [.str "break", .str n0]) nt6
    have sc := sc.trans (sm_put (S := [b]) (o := .tup [.str "break", .str n0]) nt6)
    have f1 := (sm_put (S := S) (o := .tup [.str "break", .str n0]) nt6) _ _ f1
    have g1 := (sm_put (S := S) (o := .tup [.str "break", .str n0]) nt6) _ _ g1
    have g2 := (sm_put (S := S) (o := .tup [.str "break", .str n0]) nt6) _ _ g2
    have g3 := (sm_put (S := S) (o := .tup [.str "break", .str n0]) nt6) _ _ g3
    have g4 := (sm_put (S := S) (o := .tup [.str "break", .str n0]) nt6) _ _ g4
    have g5 := (sm_put (S := S) (o := .tup [.str "break", .str n0]) nt6) _ _ g5
    have fL := (sm_put (S := S) (o := .tup [.str "break", .str n0]) nt6) _ _ fL
    generalize upd HA t6 (.tup [.str "break", .str n0]) = HB at g6 lv B sc nl2 f1 g1 g2 g3 g4 g5 fL ⊢
    have f2 := off_new (o := .lst [.ref t5, .ref t6]) lv nl2
    have lv := lv.put (o := .lst [.ref t5, .ref t6]) nl2
    have B := B.put (o := .lst [.ref t5, .ref t6]) nl2
    have sc := sc.trans (sm_put (S := [b]) (o := .lst [.ref t5, .ref t6]) nl2)
    have f1 := (sm_put (S := S) (o := .lst [.ref t5, .ref t6]) nl2) _ _ f1
    have g1 := (sm_put (S := S) (o := .lst [.ref t5, .ref t6]) nl2) _ _ g1
    have g2 := (sm_put (S := S) (o := .lst [.ref t5, .ref t6]) nl2) _ _ g2
    have g3 := (sm_put (S := S) (o := .lst [.ref t5, .ref t6]) nl2) _ _ g3
    have g4 := (sm_put (S := S) (o := .lst [.ref t5, .ref t6]) nl2) _ _ g4
    have g5 := (sm_put (S := S) (o := .lst [.ref t5, .ref t6]) nl2) _ _ g5
    have g6 := (sm_put (S := S) (o := .lst [.ref t5, .ref t6]) nl2) _ _ g6
    generalize upd HB l2 (.lst [.ref t5, .ref t6]) = HC at f2 lv B sc f1 g1 g2 g3 g4 g5 g6 ⊢
    refine ⟨l1, l2, _, _, rfl, rfl, at_off f1, at_off f2, (by show 6 ≤ sizeLine; decide), fun l3 nl3 => ?_⟩
    have f3 := off_new (o := .lst ([V.ref t1, .ref t2, .ref t3, .ref t4] ++ [V.ref t5, .ref t6])) lv nl3
    have lv := lv.put (o := .lst ([V.ref t1, .ref t2, .ref t3, .ref t4] ++ [V.ref t5, .ref t6])) nl3
    have B := B.put (o := .lst ([V.ref t1, .ref t2, .ref t3, .ref t4] ++ [V.ref t5, .ref t6])) nl3
    have sc := sc.trans (sm_put (S := [b]) (o := .lst ([V.ref t1, .ref t2, .ref t3, .ref t4] ++ [V.ref t5, .ref t6])) nl3)
    have g1 := (sm_put (S := S) (o := .lst ([V.ref t1, .ref t2, .ref t3, .ref t4] ++ [V.ref t5, .ref t6])) nl3) _ _ g1
    have g2 := (sm_put (S := S) (o := .lst ([V.ref t1, .ref t2, .ref t3, .ref t4] ++ [V.ref t5, .ref t6])) nl3) _ _ g2
    have g3 := (sm_put (S := S) (o := .lst ([V.ref t1, .ref t2, .ref t3, .ref t4] ++ [V.ref t5, .ref t6])) nl3) _ _ g3
    have g4 := (sm_put (S := S) (o := .lst ([V.ref t1, .ref t2, .ref t3, .ref t4] ++ [V.ref t5, .ref t6])) nl3) _ _ g4
    have g5 := (sm_put (S := S) (o := .lst ([V.ref t1, .ref t2, .ref t3, .ref t4] ++ [V.ref t5, .ref t6])) nl3) _ _ g5
    have g6 := (sm_put (S := S) (o := .lst ([V.ref t1, .ref t2, .ref t3, .ref t4] ++ [V.ref t5, .ref t6])) nl3) _ _ g6
    generalize upd HC l3 (.lst ([V.ref t1, .ref t2, .ref t3, .ref t4] ++ [V.ref t5, .ref t6])) = HD at f3 lv B sc g1 g2 g3 g4 g5 g6 ⊢
    refine ⟨_, rfl, _, rfl, b, 6, _, rfl, (by decide), (by decide), B, by omega, fun HE d d0 d1 BE sE => ?_⟩
    have lv := lv.box BE.bx sE
    have sc := sc.trans sE
    have B := BE
    have f3 := (sm_one hb sE) _ _ f3
    have g1 := (sm_one hb sE) _ _ g1
    have g2 := (sm_one hb sE) _ _ g2
    have g3 := (sm_one hb sE) _ _ g3
    have g4 := (sm_one hb sE) _ _ g4
    have g5 := (sm_one hb sE) _ _ g5
    have g6 := (sm_one hb sE) _ _ g6
    have w0 := hy n0 (by simp)
    have w1 := hy n1 (by simp)
    have w2 := hy n2 (by simp)
    obtain ⟨p, xs, ds, ep, hp, dp, dd, ok⟩ : ∃ p xs ds, atI [V.ref t1, .ref t2, .ref t3, .ref t4, .ref t5, .ref t6] d = some (.ref p) ∧ SqT K (off HE S) p xs ∧ DpAll K (off HE S) xs ds ∧ deedD (.tuple ds) = true ∧ DdOk ds := by
      have bi : ∀ {i : Int}, i.natAbs ≤ 1000 → Bds 9 1000 1923 0 5 [.int i] := fun h => Bds.one ((bd_int h).mono (Nat.le_refl _) (Nat.le_refl _) (Nat.le_refl _) (Nat.le_refl _) (Nat.zero_le _))
      have bn : ∀ {z : Str}, Nm z → Bds 9 1000 94 0 5 [.str z] := fun hn => Bds.one ((bd_str (Nat.le_trans hn.1.1 (by decide)) (by decide) (fun c hc => by have := (hn.1.2 c hc).2; omega)).mono (Nat.le_refl _) (Nat.le_refl _) (by decide) (Nat.le_refl _) (Nat.zero_le _))
      have bw : ∀ (z : String), (Str.ofString z).length ≤ 9 → (Str.ofString z).cps.toList.all (fun c => decide (c < 128)) = true → Bds 9 1000 94 0 5 [.str (Str.ofString z)] := fun z h1 h2 => Bds.one ((bd_str h1 (by decide) (ascii_of h2)).mono (Nat.le_refl _) (Nat.le_refl _) (by decide) (Nat.le_refl _) (Nat.zero_le _))
      have up : ∀ {C : Nat} {ds : List PyData}, Bds 9 1000 C 0 5 ds → C ≤ 2400 → Bds 9 1000 2400 0 5 ds := fun h a => h.mono (Nat.le_refl _) (Nat.le_refl _) a (Nat.le_refl _) (Nat.le_refl _)
      have h : d = 0 ∨ d = 1 ∨ d = 2 ∨ d = 3 ∨ d = 4 ∨ d = 5 := by omega
      rcases h with rfl | rfl | rfl | rfl | rfl | rfl
      · refine ⟨t1, _, [.str "fill", .str n0, .str n1], rfl, .inl (.inl g1), .cons (.str _) (.cons (.str _) (.cons (.str _) .nil)), ?_, up ((bw "fill" (by decide +kernel) (by decide +kernel)).app ((bn w0).app (bn w1))) (by decide), by show 3 ≤ 5; decide, by show 1 ≤ 3; decide⟩
        rw [deed_fill]
        show (nameD (.str n0) && (nameD (.str n1) && true)) = true
        rw [nm_true w0, nm_true w1]; rfl
      · refine ⟨t2, _, [.str "wash", .str n0, .int nb], rfl, .inl (.inl g2), .cons (.str _) (.cons (.str _) (.cons (.int _) .nil)), ?_, up ((bw "wash" (by decide +kernel) (by decide +kernel)).app ((bn w0).app (bi (by omega)))) (by decide), by show 3 ≤ 5; decide, by show 1 ≤ 3; decide⟩
        rw [deed_wash _ (.inl rfl)]
        show (nameD (.str n0) && (numD 0 999 (.int nb) && true)) = true
        rw [nm_true w0, num_true nb0 nb9]; rfl
      · refine ⟨t3, _, [.str "empty", .str n0], rfl, .inl (.inl g3), .cons (.str _) (.cons (.str _) .nil), ?_, up ((bw "empty" (by decide +kernel) (by decide +kernel)).app (bn w0)) (by decide), by show 2 ≤ 5; decide, by show 1 ≤ 2; decide⟩
        rw [deed_one _ (.inl rfl)]
        show (nameD (.str n0) && true) = true
        rw [nm_true w0]; rfl
      · refine ⟨t4, _, [.str "new", .str n0, .int nb], rfl, .inl (.inl g4), .cons (.str _) (.cons (.str _) (.cons (.int _) .nil)), ?_, up ((bw "new" (by decide +kernel) (by decide +kernel)).app ((bn w0).app (bi (by omega)))) (by decide), by show 3 ≤ 5; decide, by show 1 ≤ 3; decide⟩
        rw [deed_wash _ (.inr rfl)]
        show (nameD (.str n0) && (numD 0 999 (.int nb) && true)) = true
        rw [nm_true w0, num_true nb0 nb9]; rfl
      · refine ⟨t5, _, [.str "gather", .str n0, .str n1, .str n2, .int mx], rfl, .inl (.inl g5), .cons (.str _) (.cons (.str _) (.cons (.str _) (.cons (.str _) (.cons (.int _) .nil)))), ?_, up ((bw "gather" (by decide +kernel) (by decide +kernel)).app ((bn w0).app ((bn w1).app ((bn w2).app (bi (by omega)))))) (by decide), by show 5 ≤ 5; decide, by show 1 ≤ 5; decide⟩
        rw [deed_gather]
        show (nameD (.str n0) && (nameD (.str n1) && (nameD (.str n2) && (numD 1 999 (.int mx) && true)))) = true
        rw [nm_true w0, nm_true w1, nm_true w2, num_true mx0 mx9]; rfl
      · refine ⟨t6, _, [.str "break", .str n0], rfl, .inl (.inl g6), .cons (.str _) (.cons (.str _) .nil), ?_, up ((bw "break" (by decide +kernel) (by decide +kernel)).app (bn w0)) (by decide), by show 2 ≤ 5; decide, by show 1 ≤ 2; decide⟩
        rw [deed_one _ (.inr rfl)]
        show (nameD (.str n0) && true) = true
        rw [nm_true w0]; rfl
    refine ⟨l3, _, d, _, rfl, rfl, SqL.of (at_off f3), ep, ?_⟩
    rw [eS] at hp dp
    exact q _ p xs ds (B.mono (by omega)) sc hp dp dd ok

end
end Pot

namespace Pot
open PySem PySem.Spec PyProof.Rows L2
section
variable {P : Program} {w : World} {K : PySem.W.Frag} {mg : Str → Option Value} {base : Heap}
theorem tnb_len {x : V} {i : Int} (h : nB x = some i) (k : i.natAbs < 10 ^ 11) : (tNB x).length ≤ 12 := by
  cases x with
  | int j => cases h; exact text_small k
  | bl b => cases b <;> decide +kernel
  | _ => cases h
theorem num_of {K : PySem.W.Frag} {H : Hp} {x : V} {e : PyData} {n m C D W : Nat} (dp : Dp K H x e) (h : isIntD e = true) (b : Bd n m C D W e) : ∃ i, nB x = some i ∧ i.natAbs ≤ m + 1 ∧ isStrD e = false ∧ Bd n m 1921 0 0 e := by
  cases dp with
  | int i => exact ⟨i, rfl, Nat.le_succ_of_le b.t.g, rfl, bd_int b.t.g⟩
  | bl bb =>
    refine ⟨if bb = true then 1 else 0, rfl, ?_, rfl, (bd_bool bb).mono (Nat.le_refl _) (Nat.le_refl _) (by decide) (Nat.le_refl _) (Nat.le_refl _)⟩
    cases bb
    · exact Nat.zero_le _
    · exact Nat.succ_le_succ (Nat.zero_le m)
  | _ => cases h
theorem str_of {K : PySem.W.Frag} {H : Hp} {x : V} {e : PyData} (dp : Dp K H x e) (h : isStrD e = true) : ∃ z, x = .str z ∧ e = .str z := by
  cases dp with
  | str z => exact ⟨z, rfl, rfl⟩
  | _ => cases h
theorem tnb_ascii {x : V} {i : Int} (h : nB x = some i) : ∀ c ∈ (tNB x).cps.toList, c < 128 := by
  cases x with
  | int j => exact text_ascii j
  | bl b => cases b <;> exact ascii_of (by decide +kernel)
  | _ => cases h
def Gd (K : PySem.W.Frag) (H : Hp) (n m C : Nat) (x : V) : Prop := ∃ e, Dp K H x e ∧ Bd n m C 1 1 e
theorem Gd.same {K : PySem.W.Frag} {H H' : Hp} {n m C : Nat} {x : V} (s : Same H H') (h : Gd K H n m C x) : Gd K H' n m C x := by
  obtain ⟨e, a, b⟩ := h
  exact ⟨e, dp_same s a, b⟩
theorem gds_same {K : PySem.W.Frag} {H H' : Hp} {n m C : Nat} {xs : List V} (s : Same H H') (h : ∀ x ∈ xs, Gd K H n m C x) : ∀ x ∈ xs, Gd K H' n m C x := fun x hx => (h x hx).same s
theorem gds_app {K : PySem.W.Frag} {H : Hp} {n m C : Nat} {xs ys : List V} (h : ∀ x ∈ xs, Gd K H n m C x) (k : ∀ x ∈ ys, Gd K H n m C x) : ∀ x ∈ xs ++ ys, Gd K H n m C x := fun x hx => (List.mem_append.mp hx).elim (h x) (k x)
def spOddK (K : PySem.W.Frag) : Sp := fun vs H Q _ => ∃ (b : Addr) (cnt : Nat) (x : V) (e : PyData) (n m C D W : Nat), vs = [.ref b, x] ∧ Bp H b cnt ∧ cnt < 2 ^ 39 ∧ Dp K (off H [b]) x e ∧ Bd n m C D W e ∧ 9 ≤ n ∧ n ≤ 600 ∧ 1000 ≤ m ∧ m ≤ 10 ^ 10 ∧
  ∀ (H' : Hp) (y : V) (e' : PyData), Bp H' b (cnt + 4) → Sm [b] H H' → Dp K (off H' [b]) y e' → Bd (3 * n) (m + 2) (30 * n + 3000) 1 1 e' → Q y H'
abbrev s__law_odd : Stmt := topS 20
def n__law_odd : List Str := ["_law_box", "_law_thing", "_law_some", "_law_at", "_law_sign"]
theorem sc__law_odd : FnScope n__law_odd ["_law_box", "_law_thing"] (defScope s__law_odd) := ⟨rfl, rfl, rfl, by decide +kernel, rfl, by decide +kernel, by decide +kernel⟩
set_option maxHeartbeats 4000000 in
theorem ok_odd {f : Addr} {fd : FuncData} {k : Nat} (F : Fun K "_law_odd" "_law_odd" s__law_odd f fd) (T : Txt mg) (c__law_take : Cl P w K mg base (k + 1) "_law_take" spTake) (c__law_pick : Cl P w K mg base (k + 2) "_law_pick" spPick) : FnOk P w K mg base CX0 (k + 3) f fd ["_law_box", "_law_thing"] (spOddK K) := by
  refine F.ok sc__law_odd (fun vs H Q E h => ?_) (fun cdv A outer s H vs Q E hr h => ?_)
  · obtain ⟨b, cnt, x, e, n, m, C, D, W, rfl, _⟩ := h
    rfl
  · obtain ⟨b, cnt, x, e, n, m, C, D, W, rfl, B, hn, dp, bd, n9, n5, m1, m9, q⟩ := h
    have nd := sc__law_odd.nd
    have hu64 := hr.units
    /- 0 _law_box, 1 _law_thing, 2 _law_some, 3 _law_at, 4 _law_sign -/
    refine ⟨_, (pss_cons (ps_set (i := 2) nd rfl (.inl rfl) (pe_lst (pa_cons pe_non (pa_cons pe_bl (pa_cons pe_bl (pa_cons pe_int (pa_cons pe_int (pa_cons pe_int (pa_cons pe_int (pa_cons (pe_un un_neg pe_int) (pa_cons pe_str (pa_cons pe_str (pa_cons pe_str (pa_cons pe_str (pa_cons pe_str (pa_cons pe_str (pa_cons (pe_tup pa_nil) (pa_cons (pe_lst pa_nil) (pa_cons (pe_tup (pa_cons pe_str pa_nil)) pa_nil)))))))))))))))))))
      (pss_cons (ps_if ((pw_and (pt_val (pe_callB (kc_isi (K := K)) (by rfl) T.isinstance (by decide +kernel) (pa_cons (pv 1) (pa_cons (pe_bltn (v := .ty "int") (by rfl) T.int (by decide +kernel) rfl) pa_nil)))) (pw_and1 (pt_cmpR op_gt (pe_cl c__law_take hr (by omega) (by rfl) (pa_cons (pv 0) (pa_cons pe_int pa_nil))) pe_int (nomark _))))).pt
          (pss_one (ps_ret (pe_ix (kx_list (K := K)) (pe_lst (pa_cons (pe_op op_addB (pv 1) pe_int) (pa_cons (pe_op op_subB (pv 1) pe_int) (pa_cons (pe_un un_negB (pv 1)) (pa_cons (pe_cmpR (ko_eq (K := K) hu64) (pv 1) pe_int (nomark _)) (pa_cons (pe_callTy call_strB (by rfl) T.str (by decide +kernel) (pa_cons (pv 1) pa_nil)) (pa_cons (pe_lst (pa_cons (pv 1) pa_nil)) pa_nil))))))) (pe_cl c__law_take hr (by omega) (by rfl) (pa_cons (pv 0) (pa_cons pe_int pa_nil))) (fun _ _ => rfl))))
          pss_nil)
      (pss_cons (ps_if ((pw_and (pt_val (pe_callB (kc_isi (K := K)) (by rfl) T.isinstance (by decide +kernel) (pa_cons (pv 1) (pa_cons (pe_bltn (v := .ty "str") (by rfl) T.str (by decide +kernel) rfl) pa_nil)))) (pw_and1 (pt_cmpR op_gt (pe_cl c__law_take hr (by omega) (by rfl) (pa_cons (pv 0) (pa_cons pe_int pa_nil))) pe_int (nomark _))))).pt
          (pss_cons (ps_set (i := 3) nd rfl (.inl rfl) (pe_cl c__law_take hr (by omega) (by rfl) (pa_cons (pv 0) (pa_cons (pe_op op_add (pe_callB (kc_len (K := K)) (by rfl) T.len PySem.boot_len (pa_cons (pv 1) pa_nil)) pe_int) pa_nil))))
          (pss_cons (ps_set (i := 4) nd rfl (.inl rfl) (pe_cl c__law_pick hr (by omega) (by rfl) (pa_cons (pv 0) (pa_cons pe_str pa_nil))))
          (pss_cons (ps_set (i := 2) nd rfl (.inl rfl) (pe_lst (pa_cons (pe_op op_add_str (pe_op op_add_str (pe_slice sl_str (pv 1) po_none (po_some (pv 3))) (pv 4)) (pe_slice sl_str (pv 1) (po_some (pv 3)) po_none)) (pa_cons (pe_op op_add_str (pe_slice sl_str (pv 1) po_none (po_some (pv 3))) (pe_slice sl_str (pv 1) (po_some (pe_op op_add (pv 3) pe_int)) po_none)) (pa_cons (pe_upper (pv 1)) (pa_cons (pe_op op_rep3 (pv 1) pe_int) pa_nil))))))
          (pss_one (ps_ret (pe_cl c__law_pick hr (by omega) (by rfl) (pa_cons (pv 0) (pa_cons (pv 2) pa_nil))))))))
          pss_nil)
      (pss_one (ps_ret (pe_cl c__law_pick hr (by omega) (by rfl) (pa_cons (pv 0) (pa_cons (pv 2) pa_nil)))))))), ?_⟩
    have lv := Live.pw B
    have sc : Sm [b] H H := Same.refl _
    obtain ⟨S, eS⟩ : ∃ S, S = [b] := ⟨_, rfl⟩
    have hb : b ∈ S := by rw [eS]; simp
    rw [← eS] at lv dp
    have dp : Dp K (off H S) x e := dp
    refine ⟨1, rfl, Nat.zero_le _, fun p1 np1 => ?_⟩
    have fp1 := off_new (o := .tup []) lv np1
    have lv := lv.put (o := .tup []) np1
    have B := B.put (o := .tup []) np1
    have sc := sc.trans (sm_put (S := [b]) (o := .tup []) np1)
    have dp := dp_same ((sm_put (S := S) (o := .tup []) np1)) dp
    generalize upd H p1 (.tup []) = T1 at fp1 lv B sc dp ⊢
    refine ⟨Nat.zero_le _, fun p2 np2 => ?_⟩
    have fp2 := off_new (o := .lst []) lv np2
    have lv := lv.put (o := .lst []) np2
    have B := B.put (o := .lst []) np2
    have sc := sc.trans (sm_put (S := [b]) (o := .lst []) np2)
    have fp1 := (sm_put (S := S) (o := .lst []) np2) _ _ fp1
    have dp := dp_same ((sm_put (S := S) (o := .lst []) np2)) dp
    generalize upd T1 p2 (.lst []) = T2 at fp2 lv B sc fp1 dp ⊢
    refine ⟨(by show 1 ≤ sizeLine; decide), fun p3 np3 => ⟨(by show 17 ≤ sizeLine; decide), fun p4 np4 => ?_⟩⟩
    have fp3 := off_new (o := .tup [.str "a"]) lv np3
    have lv := lv.put (o := .tup [.str "a"]) np3
    have B := B.put (o := .tup [.str "a"]) np3
    have sc := sc.trans (sm_put (S := [b]) (o := .tup [.str "a"]) np3)
    have fp1 := (sm_put (S := S) (o := .tup [.str "a"]) np3) _ _ fp1
    have fp2 := (sm_put (S := S) (o := .tup [.str "a"]) np3) _ _ fp2
    have dp := dp_same ((sm_put (S := S) (o := .tup [.str "a"]) np3)) dp
    generalize upd T2 p3 (.tup [.str "a"]) = T3 at fp3 lv B sc np4 fp1 fp2 dp ⊢
    have fp4 := off_new (o := .lst [V.non, .bl true, .bl false, .int 0, .int 1, .int 999, .int 1000, .int (-1), .str "", .str "a", .str "abcdefgh", .str "abcdefghi", .str "a b", .str "Ab", .ref p1, .ref p2, .ref p3]) lv np4
    have lv := lv.put (o := .lst [V.non, .bl true, .bl false, .int 0, .int 1, .int 999, .int 1000, .int (-1), .str "", .str "a", .str "abcdefgh", .str "abcdefghi", .str "a b", .str "Ab", .ref p1, .ref p2, .ref p3]) np4
    have B := B.put (o := .lst [V.non, .bl true, .bl false, .int 0, .int 1, .int 999, .int 1000, .int (-1), .str "", .str "a", .str "abcdefgh", .str "abcdefghi", .str "a b", .str "Ab", .ref p1, .ref p2, .ref p3]) np4
    have sc := sc.trans (sm_put (S := [b]) (o := .lst [V.non, .bl true, .bl false, .int 0, .int 1, .int 999, .int 1000, .int (-1), .str "", .str "a", .str "abcdefgh", .str "abcdefghi", .str "a b", .str "Ab", .ref p1, .ref p2, .ref p3]) np4)
    have fp1 := (sm_put (S := S) (o := .lst [V.non, .bl true, .bl false, .int 0, .int 1, .int 999, .int 1000, .int (-1), .str "", .str "a", .str "abcdefgh", .str "abcdefghi", .str "a b", .str "Ab", .ref p1, .ref p2, .ref p3]) np4) _ _ fp1
    have fp2 := (sm_put (S := S) (o := .lst [V.non, .bl true, .bl false, .int 0, .int 1, .int 999, .int 1000, .int (-1), .str "", .str "a", .str "abcdefgh", .str "abcdefghi", .str "a b", .str "Ab", .ref p1, .ref p2, .ref p3]) np4) _ _ fp2
    have fp3 := (sm_put (S := S) (o := .lst [V.non, .bl true, .bl false, .int 0, .int 1, .int 999, .int 1000, .int (-1), .str "", .str "a", .str "abcdefgh", .str "abcdefghi", .str "a b", .str "Ab", .ref p1, .ref p2, .ref p3]) np4) _ _ fp3
    have dp := dp_same ((sm_put (S := S) (o := .lst [V.non, .bl true, .bl false, .int 0, .int 1, .int 999, .int 1000, .int (-1), .str "", .str "a", .str "abcdefgh", .str "abcdefghi", .str "a b", .str "Ab", .ref p1, .ref p2, .ref p3]) np4)) dp
    generalize upd T3 p4 (.lst [V.non, .bl true, .bl false, .int 0, .int 1, .int 999, .int 1000, .int (-1), .str "", .str "a", .str "abcdefgh", .str "abcdefghi", .str "a b", .str "Ab", .ref p1, .ref p2, .ref p3]) = T4 at fp4 lv B sc fp1 fp2 fp3 dp ⊢
    have up : ∀ {n' m' C' D' W' : Nat} {dd : PyData}, Bd n' m' C' D' W' dd → n' ≤ 3 * n → m' ≤ m + 2 → C' ≤ 30 * n + 3000 → D' ≤ 1 → W' ≤ 1 → Bd (3 * n) (m + 2) (30 * n + 3000) 1 1 dd := fun h a b c d e => h.mono a b c d e
    obtain ⟨xs0, ex0⟩ : ∃ xs0, xs0 = [V.non, .bl true, .bl false, .int 0, .int 1, .int 999, .int 1000, .int (-1), .str "", .str "a", .str "abcdefgh", .str "abcdefghi", .str "a b", .str "Ab", .ref p1, .ref p2, .ref p3] := ⟨_, rfl⟩
    have gg0 : ∀ x ∈ xs0, Gd K (off T4 S) (3 * n) (m + 2) (30 * n + 3000) x := by
      rw [ex0]
      intro x hx
      have st : ∀ (z : String) (k : Nat), (Str.ofString z).length = k → k ≤ 9 → (Str.ofString z).cps.toList.all (fun c => decide (c < 128)) = true → Gd K (off T4 S) (3 * n) (m + 2) (30 * n + 3000) (.str (Str.ofString z)) := fun z k h1 h2 h3 =>
        ⟨_, .str _, up (n' := 9) (m' := 0) (bd_str (by omega) (by decide) (ascii_of h3)) (by omega) (by omega) (by omega) (by decide) (by decide)⟩
      have nu : ∀ j : Int, j.natAbs ≤ 1000 → Gd K (off T4 S) (3 * n) (m + 2) (30 * n + 3000) (.int j) := fun j h => ⟨_, .int _, up (n' := 0) (bd_int h) (by omega) (by omega) (by omega) (by decide) (by decide)⟩
      simp only [List.mem_cons, List.not_mem_nil, or_false] at hx
      rcases hx with rfl | rfl | rfl | rfl | rfl | rfl | rfl | rfl | rfl | rfl | rfl | rfl | rfl | rfl | rfl | rfl | rfl
      · exact ⟨.none, .non, up (n' := 0) (m' := 0) bd_none (by omega) (by omega) (by omega) (by decide) (by decide)⟩
      · exact ⟨_, .bl _, up (n' := 0) (m' := 0) (bd_bool _) (by omega) (by omega) (by omega) (by decide) (by decide)⟩
      · exact ⟨_, .bl _, up (n' := 0) (m' := 0) (bd_bool _) (by omega) (by omega) (by omega) (by decide) (by decide)⟩
      · exact nu _ (by decide)
      · exact nu _ (by decide)
      · exact nu _ (by decide)
      · exact nu _ (by decide)
      · exact nu _ (by decide)
      · exact st "" 0 (by decide +kernel) (by decide) (by decide +kernel)
      · exact st "a" 1 (by decide +kernel) (by decide) (by decide +kernel)
      · exact st "abcdefgh" 8 (by decide +kernel) (by decide) (by decide +kernel)
      · exact st "abcdefghi" 9 (by decide +kernel) (by decide) (by decide +kernel)
      · exact st "a b" 3 (by decide +kernel) (by decide) (by decide +kernel)
      · exact st "Ab" 2 (by decide +kernel) (by decide) (by decide +kernel)
      · exact ⟨.tuple [], .tup (.inl (.inl fp1)) .nil, up (n' := 0) (m' := 0) ((Bds.nil (D := 0)).tuple (Nat.zero_le 1)) (by omega) (by omega) (by omega) (by decide) (by decide)⟩
      · exact ⟨.list [], .lst (SqL.of fp2) .nil, up (n' := 0) (m' := 0) ((Bds.nil (D := 0)).list (Nat.zero_le 1)) (by omega) (by omega) (by omega) (by decide) (by decide)⟩
      · exact ⟨.tuple [.str "a"], .tup (.inl (.inl fp3)) (.cons (.str _) .nil), up (n' := 9) (m' := 0) (((Bds.one (bd_str (by decide +kernel) (by decide) (ascii_of (by decide +kernel)))).mono (Nat.le_refl _) (Nat.le_refl _) (Nat.le_refl _) (Nat.le_refl _) (Nat.zero_le 1)).tuple (by show 1 ≤ 1; decide)) (by omega) (by omega) (by omega) (by decide) (by decide)⟩
    have l0 : xs0.length = 17 := by rw [ex0]; rfl
    rw [← ex0] at fp4
    clear ex0 fp1 fp2 fp3
    have fin : ∀ (Hn : Hp) (p : Addr) (xs : List V) (c : Nat), Bp Hn b c → c ≤ cnt + 3 → Sm [b] H Hn → off Hn S p = some (.lst xs) → (∀ x ∈ xs, Gd K (off Hn S) (3 * n) (m + 2) (30 * n + 3000) x) → 1 ≤ xs.length → xs.length ≤ 1000 →
        spPick [.ref b, .ref p] Hn Q E := by
      intro Hn p xs c Bn hc sn hp hg l1 l2
      refine ⟨b, c, .ref p, rfl, Bn, by omega, .inr ⟨p, xs, rfl, ?_, at_off hp, by omega, l2, fun H' i y hy B' s' => ?_⟩⟩
      · have := off_mem hp
        rw [eS] at this
        exact fun z => this (by rw [z]; simp)
      · obtain ⟨ed, h1, h2⟩ := hg y (List.mem_of_getElem? hy)
        exact q H' y ed (B'.mono (by omega)) (sn.trans s') (by rw [eS] at h1; exact dp_same s' h1) h2
    have dH := dp_off dp
    refine ⟨_, rfl, _, .ty _, _, _, isIntD _, rfl, .ty _, tyx_dp dH, kit_int dH, _, rfl, ?_⟩
    cases hI : isIntD e with
    | true =>
      obtain ⟨i, nb, hi, hS, bx⟩ := num_of dp hI bd
      refine iteT ⟨_, rfl, b, 3, _, rfl, (by decide), (by decide), B, by omega, fun H2 r r0 r1 B2 s2 => ⟨_, _, rfl, rfl, _, rfl, ite2 (fun h1 => ?_) (fun h1 => ?_)⟩⟩
      · skip
        have lv := lv.box B2.bx s2
        have sc := sc.trans s2
        have B := B2
        have fp4 := (sm_one hb s2) _ _ fp4
        have dp := dp_same ((sm_one hb s2)) dp
        have gg0 := gds_same ((sm_one hb s2)) gg0
        have dH := dp_off dp
        have she : SeqAt.shaped e = true := by cases e <;> first | rfl | cases hI
        refine ⟨_, rfl, i, _, nb, rfl, _, rfl, i, _, nb, rfl, _, rfl, i, nb, _, rfl, e, .int 1, dH, .int _, she, rfl, _, rfl, _, i, rfl, nb, log_smallW (by omega), _, rfl, (by show 1 ≤ sizeLine; decide), fun q1 nq1 => ⟨(by show 6 ≤ sizeLine; decide), fun q2 nq2 => ?_⟩⟩
        have fq1 := off_new (o := .lst [x]) lv nq1
        have lv := lv.put (o := .lst [x]) nq1
        have B := B.put (o := .lst [x]) nq1
        have sc := sc.trans (sm_put (S := [b]) (o := .lst [x]) nq1)
        have dp := dp_same ((sm_put (S := S) (o := .lst [x]) nq1)) dp
        generalize upd H2 q1 (.lst [x]) = H3 at fq1 lv B sc nq2 dp ⊢
        have fq2 := off_new (o := .lst [V.int (i + 1), .int (i - 1), .int (-i), .bl (PyData.eqv e (.int 1)), .str (tNB x), .ref q1]) lv nq2
        have lv := lv.put (o := .lst [V.int (i + 1), .int (i - 1), .int (-i), .bl (PyData.eqv e (.int 1)), .str (tNB x), .ref q1]) nq2
        have B := B.put (o := .lst [V.int (i + 1), .int (i - 1), .int (-i), .bl (PyData.eqv e (.int 1)), .str (tNB x), .ref q1]) nq2
        have sc := sc.trans (sm_put (S := [b]) (o := .lst [V.int (i + 1), .int (i - 1), .int (-i), .bl (PyData.eqv e (.int 1)), .str (tNB x), .ref q1]) nq2)
        have fq1 := (sm_put (S := S) (o := .lst [V.int (i + 1), .int (i - 1), .int (-i), .bl (PyData.eqv e (.int 1)), .str (tNB x), .ref q1]) nq2) _ _ fq1
        have dp := dp_same ((sm_put (S := S) (o := .lst [V.int (i + 1), .int (i - 1), .int (-i), .bl (PyData.eqv e (.int 1)), .str (tNB x), .ref q1]) nq2)) dp
        generalize upd H3 q2 (.lst [V.int (i + 1), .int (i - 1), .int (-i), .bl (PyData.eqv e (.int 1)), .str (tNB x), .ref q1]) = H4 at fq2 lv B sc fq1 dp ⊢
        refine ⟨_, rfl, b, 6, _, rfl, (by decide), (by decide), B, by omega, fun H5 d d0 d1 B5 s5 => ?_⟩
        have lv := lv.box B5.bx s5
        have sc := sc.trans s5
        have B := B5
        have fq1 := (sm_one hb s5) _ _ fq1
        have fq2 := (sm_one hb s5) _ _ fq2
        have dp := dp_same ((sm_one hb s5)) dp
        obtain ⟨v, ed, ev, dv, bv⟩ : ∃ v ed, atI [V.int (i + 1), .int (i - 1), .int (-i), .bl (PyData.eqv e (.int 1)), .str (tNB x), .ref q1] d = some v ∧ Dp K (off H5 S) v ed ∧ Bd (3 * n) (m + 2) (30 * n + 3000) 1 1 ed := by
          have nu : ∀ j : Int, j.natAbs ≤ m + 2 → Gd K (off H5 S) (3 * n) (m + 2) (30 * n + 3000) (.int j) := fun j h => ⟨_, .int _, up (n' := 0) (bd_int h) (by omega) (by omega) (by omega) (by decide) (by decide)⟩
          have h : d = 0 ∨ d = 1 ∨ d = 2 ∨ d = 3 ∨ d = 4 ∨ d = 5 := by omega
          rcases h with rfl | rfl | rfl | rfl | rfl | rfl
          · obtain ⟨ed, h1, h2⟩ := nu (i + 1) (by omega)
            exact ⟨_, ed, rfl, h1, h2⟩
          · obtain ⟨ed, h1, h2⟩ := nu (i - 1) (by omega)
            exact ⟨_, ed, rfl, h1, h2⟩
          · obtain ⟨ed, h1, h2⟩ := nu (-i) (by omega)
            exact ⟨_, ed, rfl, h1, h2⟩
          · exact ⟨_, _, rfl, .bl _, up (n' := 0) (m' := 0) (bd_bool _) (by omega) (by omega) (by omega) (by decide) (by decide)⟩
          · exact ⟨_, _, rfl, .str _, up (n' := 12) (m' := 0) (bd_str (tnb_len nb (by omega)) (by decide) (tnb_ascii nb)) (by omega) (by omega) (by omega) (by decide) (by decide)⟩
          · exact ⟨_, _, rfl, .lst (SqL.of fq1) (.cons dp .nil), up (n' := n) (((Bds.one bx).mono (Nat.le_refl _) (Nat.le_refl _) (Nat.le_refl _) (Nat.le_refl _) (Nat.zero_le 1)).list (by show 1 ≤ 1; decide)) (by omega) (by omega) (by omega) (by decide) (by decide)⟩
        refine ⟨q2, _, d, v, rfl, rfl, SqL.of (at_off fq2), ev, ?_⟩
        rw [eS] at dv
        exact q _ v ed (B.mono (by omega)) sc dv bv
      · skip
        have lv := lv.box B2.bx s2
        have sc := sc.trans s2
        have B := B2
        have fp4 := (sm_one hb s2) _ _ fp4
        have dp := dp_same ((sm_one hb s2)) dp
        have gg0 := gds_same ((sm_one hb s2)) gg0
        have dH := dp_off dp
        refine ⟨_, rfl, _, .ty _, _, _, isStrD _, rfl, .ty _, tyx_dp dH, kit_str dH, _, rfl, ?_⟩
        rw [hS]
        exact iteF ⟨_, rfl, _, rfl, fin _ p4 xs0 _ B (by omega) sc fp4 gg0 (by omega) (by omega)⟩
    | false =>
      refine iteF ⟨_, rfl, _, .ty _, _, _, isStrD _, rfl, .ty _, tyx_dp dH, kit_str dH, _, rfl, ?_⟩
      cases hS : isStrD e with
      | true =>
        obtain ⟨z, rfl, rfl⟩ := str_of dp hS
        have hz : z.length ≤ n := bd.x.1
        have cz : ∀ x ∈ z.cps.toList, x < 128 := bd.x.2
        have hz2 : z.length ≤ sizeLine := by rw [sizeLine_eq]; omega
        refine iteT ⟨_, rfl, b, 3, _, rfl, (by decide), (by decide), B, by omega, fun H2 r r0 r1 B2 s2 => ⟨_, _, rfl, rfl, _, rfl, ite2 (fun h1 => ?_) (fun h1 => ?_)⟩⟩
        · skip
          have lv := lv.box B2.bx s2
          have sc := sc.trans s2
          have B := B2
          refine ⟨_, rfl, _, rfl, _, _, rfl, ⟨hz2, rfl⟩, _, _, rfl, rfl, b, _, _, rfl, (by omega), (by omega), B, by omega, fun H3 at_ a0 a1 B3 s3 => ?_⟩
          have lv := lv.box B3.bx s3
          have sc := sc.trans s3
          have B := B3
          refine ⟨_, rfl, b, _, _, rfl, B, by omega, .inl ⟨_, rfl, by decide +kernel, by decide +kernel, fun H4 c B4 s4 hc => ?_⟩⟩
          have lv := lv.box B4.bx s4
          have sc := sc.trans s4
          have B := B4
          have c128 : c < 128 := by
            have : ∀ c ∈ (Str.ofString "azAZ 09-_~").cps.toList, c < 128 := by decide +kernel
            exact this c hc
          have lc : ∀ lo hi, (cutS z lo hi).length ≤ z.length := fun lo hi => cut_small z lo hi
          refine ⟨_, rfl, _, rfl, _, rfl, _, rfl, hz2, _, rfl, _, _, rfl, rfl, (by rw [sizeLine_eq]; have := lc none (some at_); show _ + 1 ≤ _; omega), ?_⟩
          refine ⟨_, rfl, _, rfl, _, rfl, _, rfl, hz2, _, _, rfl, rfl, (by rw [strLen_append, sizeLine_eq]; have := lc none (some at_); have := lc (some at_) none; show _ + 1 + _ ≤ _; omega), ?_⟩
          refine ⟨_, rfl, _, rfl, _, rfl, _, rfl, hz2, ?_⟩
          refine ⟨_, rfl, _, rfl, _, _, rfl, rfl, _, rfl, _, rfl, hz2, _, _, rfl, rfl, (by rw [sizeLine_eq]; have := lc none (some at_); have := lc (some (at_ + 1)) none; omega), ?_⟩
          refine ⟨_, rfl, ⟨_, rfl⟩, z, rfl, rfl, (by omega), ?_⟩
          refine ⟨_, rfl, z, rfl, rfl, (by omega), fun z3 l3 c3 => ⟨(by show 4 ≤ sizeLine; decide), fun q2 nq2 => ?_⟩⟩
          have fq2 := off_new (o := .lst [V.str (cutS z none (some at_) ++ (⟨#[c]⟩ : Str) ++ cutS z (some at_) none), .str (cutS z none (some at_) ++ cutS z (some (at_ + 1)) none), .str (Txt.upper z), .str z3]) lv nq2
          have lv := lv.put (o := .lst [V.str (cutS z none (some at_) ++ (⟨#[c]⟩ : Str) ++ cutS z (some at_) none), .str (cutS z none (some at_) ++ cutS z (some (at_ + 1)) none), .str (Txt.upper z), .str z3]) nq2
          have B := B.put (o := .lst [V.str (cutS z none (some at_) ++ (⟨#[c]⟩ : Str) ++ cutS z (some at_) none), .str (cutS z none (some at_) ++ cutS z (some (at_ + 1)) none), .str (Txt.upper z), .str z3]) nq2
          have sc := sc.trans (sm_put (S := [b]) (o := .lst [V.str (cutS z none (some at_) ++ (⟨#[c]⟩ : Str) ++ cutS z (some at_) none), .str (cutS z none (some at_) ++ cutS z (some (at_ + 1)) none), .str (Txt.upper z), .str z3]) nq2)
          generalize upd H4 q2 (.lst [V.str (cutS z none (some at_) ++ (⟨#[c]⟩ : Str) ++ cutS z (some at_) none), .str (cutS z none (some at_) ++ cutS z (some (at_ + 1)) none), .str (Txt.upper z), .str z3]) = H5 at fq2 lv B sc  ⊢
          have st : ∀ {zz : Str} {Hx : Hp}, zz.length ≤ 3 * n → (∀ x ∈ zz.cps.toList, x < 128) → Gd K Hx (3 * n) (m + 2) (30 * n + 3000) (.str zz) := fun h1 h2 =>
            ⟨_, .str _, up (n' := 3 * n) (m' := 0) (bd_str h1 (by omega) h2) (by omega) (by omega) (by omega) (by decide) (by decide)⟩
          have l1 := lc none (some at_)
          have l2 := lc (some at_) none
          have l4 := lc (some (at_ + 1)) none
          have l5 := upper_len cz
          have gg1 : ∀ y ∈ [V.str (cutS z none (some at_) ++ (⟨#[c]⟩ : Str) ++ cutS z (some at_) none), .str (cutS z none (some at_) ++ cutS z (some (at_ + 1)) none), .str (Txt.upper z), .str z3], Gd K (off H5 S) (3 * n) (m + 2) (30 * n + 3000) y := by
            intro y hx
            simp only [List.mem_cons, List.not_mem_nil, or_false] at hx
            rcases hx with rfl | rfl | rfl | rfl
            · refine st (by rw [strLen_append, strLen_append]; show _ + 1 + _ ≤ _; omega) (ascii_app (ascii_app (ascii_cut cz _ _) fun x hx => ?_) (ascii_cut cz _ _))
              have : x = c := by simpa using hx
              rw [this]; exact c128
            · exact st (by rw [strLen_append]; omega) (ascii_app (ascii_cut cz _ _) (ascii_cut cz _ _))
            · exact st (by omega) (upper_small cz)
            · exact st (by omega) fun x hx => cz x (c3 x hx)
          exact ⟨_, rfl, _, rfl, fin _ q2 _ _ B (by omega) sc fq2 gg1 (by show 1 ≤ 4; decide) (by show 4 ≤ 1000; decide)⟩
        · skip
          have lv := lv.box B2.bx s2
          have sc := sc.trans s2
          have B := B2
          have fp4 := (sm_one hb s2) _ _ fp4
          have gg0 := gds_same ((sm_one hb s2)) gg0
          exact ⟨_, rfl, _, rfl, fin _ p4 xs0 _ B (by omega) sc fp4 gg0 (by omega) (by omega)⟩
      | false => exact iteF ⟨_, rfl, _, rfl, fin _ p4 xs0 _ B (by omega) sc fp4 gg0 (by omega) (by omega)⟩

end
end Pot

namespace Pot
open PySem PySem.Spec PyProof.Rows L2
section
variable {P : Program} {w : World} {K : PySem.W.Frag} {mg : Str → Option Value} {base : Heap}
theorem slA_of {H : Hp} {S : List Addr} {a : Addr} {xs : List V} {ds : List PyData} {lo hi : Option Int} {Q : VK} {n m C D W : Nat} (lv : Live S H) (hS : SqT K (off H S) a xs) (dx : DpAll K (off H S) xs ds) (bd : Bds n m C D W ds)
    (k : ∀ H' p ys es, Same H H' → SqT K (off H' S) p ys → DpAll K (off H' S) ys es → Bds n m C D W es → es.length ≤ ds.length → ys.length = es.length → Q (.ref p) H') : rSlA K (.ref a) lo hi H Q := by
  refine ⟨a, xs, rfl, sqt_off hS, fun _ => k H a xs ds (Same.refl _) hS dx bd (Nat.le_refl _) (dpAll_len dx), fun _ p np => ?_⟩
  obtain ⟨ys, es, ey, d1, b1, l1, l2⟩ := cut_dp dx bd lo hi
  rw [ey]
  exact k _ p ys es (same_upd np) (.inl (.inl (off_new lv np))) (dpAll_same (sm_of (S := S) (same_upd np)) d1) b1 l1 l2
theorem catA_of {H : Hp} {S : List Addr} {a c : Addr} {xs ys : List V} {Q : VK} (lv : Live S H) (hS : SqT K (off H S) a xs) (hT : SqT K (off H S) c ys) (hl : xs.length + ys.length ≤ sizeLine)
    (k : ∀ H' p, Same H H' → SqT K (off H' S) p (xs ++ ys) → Q (.ref p) H') : rCatA K (.ref a) (.ref c) H Q := by
  refine ⟨a, c, xs, ys, rfl, rfl, sqt_off hS, sqt_off hT, hl, fun e => ?_, fun _ e => ?_, fun _ _ p np => ?_⟩
  · subst e; exact k H c (Same.refl _) hT
  · subst e; exact k H a (Same.refl _) (by rw [List.append_nil]; exact hS)
  · exact k _ p (same_upd np) (.inl (.inl (off_new lv np)))
def spBentK (K : PySem.W.Frag) (k : Nat) : Sp := fun vs H Q _ => ∃ (b : Addr) (cnt : Nat) (x : V) (e : PyData) (n m C D W : Nat), vs = [.ref b, x] ∧ Bp H b cnt ∧ cnt + 8 * k < 2 ^ 39 ∧ Dp K (off H [b]) x e ∧ Bd n m C D W e ∧ D < k ∧ 9 ≤ n ∧ n ≤ 600 ∧ 1000 ≤ m ∧ m ≤ 10 ^ 10 ∧ 1 ≤ W ∧ W ≤ 1000 ∧ D ≤ 20 ∧
  ∀ (H' : Hp) (y : V) (e' : PyData), Bp H' b (cnt + 8 * k) → Sm [b] H H' → Dp K (off H' [b]) y e' → Bd (3 * n) (m + 2) (3 * (C * (D + 1)) + 30 * n + 4000) (D + 1) (3 * W + 3) e' → Q y H'
abbrev s__law_bent : Stmt := topS 21
def n__law_bent : List Str := ["_law_box", "_law_thing", "_law_at", "_law_way", "_law_words"]
theorem sc__law_bent : FnScope n__law_bent ["_law_box", "_law_thing"] (defScope s__law_bent) := ⟨rfl, rfl, rfl, by decide +kernel, rfl, by decide +kernel, by decide +kernel⟩
set_option maxHeartbeats 4000000 in
theorem ok_bent {f : Addr} {fd : FuncData} {k0 : Nat} (F : Fun K "_law_bent" "_law_bent" s__law_bent f fd) (T : Txt mg) (bF : Binds K fd ["_law_box", "_law_thing"] []) (gF : mg "_law_bent" = some (.ref f)) (c__law_take : Cl P w K mg base (k0 + 1) "_law_take" spTake) (c__law_pick : Cl P w K mg base (k0 + 2) "_law_pick" spPick) (c__law_odd : Cl P w K mg base (k0 + 3) "_law_odd" (spOddK K)) :
    ∀ k : Nat, FnOk P w K mg base CX0 (k0 + k + 4) f fd ["_law_box", "_law_thing"] (spBentK K k) := by
  intro k
  induction k with
  | zero =>
    refine F.ok sc__law_bent (fun vs H Q E h => ?_) (fun cdv A outer s H vs Q E hr h => ?_)
    · obtain ⟨b, cnt, x, e, n, m, C, D, W, rfl, _⟩ := h
      rfl
    · obtain ⟨b, cnt, x, e, n, m, C, D, W, rfl, _, _, _, _, hk, _⟩ := h
      exact absurd hk (Nat.not_lt_zero _)
  | succ k G =>
    refine F.ok sc__law_bent (fun vs H Q E h => ?_) (fun cdv A outer s H vs Q E hr h => ?_)
    · obtain ⟨b, cnt, x, e, n, m, C, D, W, rfl, _⟩ := h
      rfl
    · obtain ⟨b, cnt, x, e, n, m, C, D, W, rfl, B, hn, dp, bd, hk, n9, n5, m1, m9, W1, W9, D20, q⟩ := h
      have nd := sc__law_bent.nd
      have hu64 := hr.units
      have hr2 : Room (k0 + k + 4) (A.deeper (envOfC (Str.ofString "_law_bent") (defScope s__law_bent) s.heap.objs.size f cdv)) := hr
      /- 0 _law_box, 1 _law_thing, 2 _law_at, 3 _law_way, 4 _law_words -/
      refine ⟨_, (pss_cons (ps_if ((pw_or (pt_not (pt_val (pe_callB (kc_isi (K := K)) (by rfl) T.isinstance (by decide +kernel) (pa_cons (pv 1) (pa_cons (pe_bltn (v := .ty "tuple") (by rfl) T.tuple (by decide +kernel) rfl) pa_nil))))) (pw_or (pt_cmpR (ko_eq (K := K) hu64) (pv 1) (pe_tup pa_nil) (nomark _)) (pw_or1 (pt_cmpR op_eq (pe_cl c__law_take hr (by omega) (by rfl) (pa_cons (pv 0) (pa_cons pe_int pa_nil))) pe_int (nomark _)))))).pt
          (pss_one (ps_ret (pe_cl c__law_odd hr (by omega) (by rfl) (pa_cons (pv 0) (pa_cons (pv 1) pa_nil)))))
          pss_nil)
      (pss_cons (ps_par (i := 2) (j := 3) rfl nd rfl rfl (by decide) rfl rfl (pa_cons (pe_cl c__law_take hr (by omega) (by rfl) (pa_cons (pv 0) (pa_cons (pe_callB (kc_len (K := K)) (by rfl) T.len PySem.boot_len (pa_cons (pv 1) pa_nil)) pa_nil))) (pa_cons (pe_cl c__law_take hr (by omega) (by rfl) (pa_cons (pv 0) (pa_cons pe_int pa_nil))) pa_nil)) rfl)
      (pss_cons (ps_if (pt_cmpR op_eq (pv 3) pe_int (nomark _))
          (pss_one (ps_ret (pe_op (op_catA) (pe_slice (kl_tup (K := K)) (pv 1) po_none (po_some (pv 2))) (pe_slice (kl_tup (K := K)) (pv 1) (po_some (pe_op op_add (pv 2) pe_int)) po_none))))
          pss_nil)
      (pss_cons (ps_if (pt_cmpR op_eq (pv 3) pe_int (nomark _))
          (pss_one (ps_ret (pe_op (op_catA) (pe_slice (kl_tup (K := K)) (pv 1) po_none (po_some (pe_op op_add (pv 2) pe_int))) (pe_slice (kl_tup (K := K)) (pv 1) (po_some (pv 2)) po_none))))
          pss_nil)
      (pss_cons (ps_if (pt_cmpR op_eq (pv 3) pe_int (nomark _))
          (pss_one (ps_ret (pe_op (op_catA) (pe_op (op_catA) (pe_slice (kl_tup (K := K)) (pv 1) po_none (po_some (pv 2))) (pe_tup (pa_cons (pe_cl c__law_odd hr (by omega) (by rfl) (pa_cons (pv 0) (pa_cons pe_non pa_nil))) pa_nil))) (pe_slice (kl_tup (K := K)) (pv 1) (po_some (pv 2)) po_none))))
          pss_nil)
      (pss_cons (ps_if (pt_cmpR op_eq (pv 3) pe_int (nomark _))
          (pss_one (ps_ret (pe_op (op_catA) (pe_op (op_catA) (pe_slice (kl_tup (K := K)) (pv 1) po_none (po_some (pv 2))) (pe_revT (K := K) (pe_slice (kl_tup (K := K)) (pv 1) (po_some (pv 2)) (po_some (pe_op op_add (pv 2) pe_int))))) (pe_slice (kl_tup (K := K)) (pv 1) (po_some (pe_op op_add (pv 2) pe_int)) po_none))))
          pss_nil)
      (pss_cons (ps_if (pt_cmpR op_eq (pv 3) pe_int (nomark _))
          (pss_cons (ps_set (i := 4) nd rfl (.inl rfl) (pe_lst (pa_cons pe_str (pa_cons pe_str (pa_cons pe_str (pa_cons pe_str (pa_cons pe_str (pa_cons pe_str (pa_cons pe_str pa_nil)))))))))
          (pss_one (ps_ret (pe_op (op_catA) (pe_tup (pa_cons (pe_cl c__law_pick hr (by omega) (by rfl) (pa_cons (pv 0) (pa_cons (pv 4) pa_nil))) pa_nil)) (pe_slice (kl_tup (K := K)) (pv 1) (po_some pe_int) po_none)))))
          pss_nil)
      (pss_one (ps_ret (pe_op (op_catA) (pe_op (op_catA) (pe_slice (kl_tup (K := K)) (pv 1) po_none (po_some (pv 2))) (pe_tup (pa_cons (pe_call G hr2 (by rfl) gF F.kp bF .nil pass0 (pa_cons (pv 0) (pa_cons (pe_ix (kx_tup (K := K)) (pv 1) (pv 2) (fun _ _ => rfl)) pa_nil))) pa_nil))) (pe_slice (kl_tup (K := K)) (pv 1) (po_some (pe_op op_add (pv 2) pe_int)) po_none))))))))))), ?_⟩
      have lv := Live.pw B
      have sc : Sm [b] H H := Same.refl _
      obtain ⟨S, eS⟩ : ∃ S, S = [b] := ⟨_, rfl⟩
      have hb : b ∈ S := by rw [eS]; simp
      rw [← eS] at lv dp
      have odd : ∀ {Hn : Hp} {c : Nat}, Bp Hn b c → c ≤ cnt + 3 → Sm [b] H Hn → Dp K (off Hn S) x e → spOddK K [.ref b, x] Hn Q E := fun {Hn c} Bn hc sn dn =>
        ⟨b, c, x, e, n, m, C, D, W, rfl, Bn, by omega, by rw [eS] at dn; exact dn, bd, n9, n5, m1, m9, fun H' y e' B' s' d' b' => q H' y e' (B'.mono (by omega)) (sn.trans s') d' (b'.mono (Nat.le_refl _) (Nat.le_refl _) (by omega) (by omega) (by omega))⟩
      have dH := dp_off dp
      refine ⟨_, rfl, _, .ty _, _, _, isTupD _, rfl, .ty _, tyx_dp dH, kit_tup dH, _, rfl, ?_⟩
      cases dp with
      | @tup a xs ds stX daX =>
        have dp : Dp K (off H S) (.ref a) (.tuple ds) := .tup stX daX
        obtain ⟨bX, lW, C3, D1⟩ := bd.parts (.inr rfl)
        have lX : xs.length = ds.length := dpAll_len daX
        have hT : 3 * (C * (D + 1)) = 3 * (C * D) + 3 * C := by rw [Nat.mul_succ]; omega
        have fin : ∀ {Hn : Hp} {c : Nat} {p : Addr} {zs : List V} {es : List PyData} {CC : Nat}, Bp Hn b c → c ≤ cnt + 8 * (k + 1) → Sm [b] H Hn → SqT K (off Hn S) p zs → DpAll K (off Hn S) zs es → Bds (3 * n) (m + 2) CC D (3 * W + 3) es → CC + 3 ≤ 3 * (C * (D + 1)) + 30 * n + 4000 → es.length ≤ 3 * W + 3 → Q (.ref p) Hn := fun {Hn c p zs es CC} Bn hc sn st da be hCC le => by
          rw [eS] at st da
          exact q _ _ _ (Bn.mono hc) sn (.tup st da) ((be.tuple le).mono (Nat.le_refl _) (Nat.le_refl _) hCC (Nat.le_refl _) (Nat.le_refl _))
        have up : ∀ {es : List PyData}, Bds n m (C - 3) (D - 1) W es → Bds (3 * n) (m + 2) (C - 3) D (3 * W + 3) es := fun h => h.mono (by omega) (by omega) (Nat.le_refl _) (by omega) (by omega)
        have sz : ∀ {j : Nat}, j ≤ 5000 → j ≤ sizeLine := fun h => by rw [sizeLine_eq]; omega
        refine iteF ?_
        refine ⟨_, rfl, Nat.zero_le _, fun p0 np0 => ?_⟩
        have f0 := off_new (o := .tup []) lv np0
        have lv := lv.put (o := .tup []) np0
        have B := B.put (o := .tup []) np0
        have sc := sc.trans (sm_put (S := [b]) (o := .tup []) np0)
        have dp := dp_same ((sm_put (S := S) (o := .tup []) np0)) dp
        have stX := same_tup ((sm_put (S := S) (o := .tup []) np0)) stX
        have daX := dpAll_same ((sm_put (S := S) (o := .tup []) np0)) daX
        generalize upd H p0 (.tup []) = H1 at f0 lv B sc dp stX daX ⊢
        refine ⟨_, _, dp_off dp, .tup (.inl (.inl (at_off f0))) .nil, gd_shaped bd.t.g (Nat.le_trans bd.t.d (by omega)), rfl, _, rfl, ?_⟩
        clear f0
        by_cases hds : ds = []
        · subst hds
          exact iteT ⟨_, rfl, _, rfl, odd B (by omega) sc dp⟩
        have e0 : PyData.eqv (.tuple ds) (.tuple []) = false := by
          cases ds with
          | nil => exact absurd rfl hds
          | cons _ _ => rfl
        rw [e0]
        have l1 : 1 ≤ ds.length := List.length_pos_iff.mpr hds
        refine iteF ⟨_, rfl, b, 9, _, rfl, (by decide), (by decide), B, by omega, fun H2 r r0 r1 B2 s2 => ⟨rfl, _, rfl, ite2 (fun h1 => ?_) (fun h1 => ?_)⟩⟩
        · skip
          have lv := lv.box B2.bx s2
          have sc := sc.trans s2
          have B := B2
          have dp := dp_same ((sm_one hb s2)) dp
          exact ⟨_, rfl, _, rfl, odd B (by omega) sc dp⟩
        have lv := lv.box B2.bx s2
        have sc := sc.trans s2
        have B := B2
        have dp := dp_same ((sm_one hb s2)) dp
        have stX := same_tup ((sm_one hb s2)) stX
        have daX := dpAll_same ((sm_one hb s2)) daX
        clear h1 r0 r1 e0
        refine ⟨_, rfl, _, rfl, _, _, rfl, .inr ⟨_, sqt_off stX, rfl⟩, b, (xs.length : Nat), _, rfl, by omega, by omega, B, by omega, fun H3 at_ a0 a1 B3 s3 => ?_⟩
        have lv := lv.box B3.bx s3
        have sc := sc.trans s3
        have B := B3
        have dp := dp_same ((sm_one hb s3)) dp
        have stX := same_tup ((sm_one hb s3)) stX
        have daX := dpAll_same ((sm_one hb s3)) daX
        refine ⟨_, rfl, b, 8, _, rfl, (by decide), (by decide), B, by omega, fun H4 way w0 w1 B4 s4 => ⟨_, _, rfl, ?_⟩⟩
        have lv := lv.box B4.bx s4
        have sc := sc.trans s4
        have B := B4
        have dp := dp_same ((sm_one hb s4)) dp
        have stX := same_tup ((sm_one hb s4)) stX
        have daX := dpAll_same ((sm_one hb s4)) daX
        obtain ⟨at_, rfl⟩ : ∃ j : Nat, at_ = (j : Int) := ⟨at_.toNat, by omega⟩
        have hat : at_ < xs.length := by omega
        clear odd
        simp only [List.set]
        refine ⟨_, rfl, rfl, _, rfl, ite2 (fun h0 => ?_) (fun h0 => ?_)⟩
        · refine ⟨_, rfl, _, rfl, _, rfl, slA_of lv stX daX bX fun H5 p1 y1 e1 s5 stA daA bA lA mA => ?_⟩
          have lv := lv.same s5
          have sc := sc.trans (sm_of (S := [b]) s5)
          have B := B.same s5
          have stX := same_tup ((sm_of (S := S) s5)) stX
          have daX := dpAll_same ((sm_of (S := S) s5)) daX
          refine ⟨_, rfl, _, rfl, _, _, rfl, rfl, _, rfl, ?_⟩
          dsimp only [tNoPart]
          refine slA_of (lo := some ((at_ : Int) + 1)) (hi := none) lv stX daX bX fun H6 p2 y2 e2 s6 stB daB bB lB mB => ?_
          have lv := lv.same s6
          have sc := sc.trans (sm_of (S := [b]) s6)
          have B := B.same s6
          have stA := same_tup ((sm_of (S := S) s6)) stA
          have daA := dpAll_same ((sm_of (S := S) s6)) daA
          refine catA_of lv stA stB (sz (by omega)) fun H7 p3 s7 stC => ?_
          have lv := lv.same s7
          have sc := sc.trans (sm_of (S := [b]) s7)
          have B := B.same s7
          have daA := dpAll_same ((sm_of (S := S) s7)) daA
          have daB := dpAll_same ((sm_of (S := S) s7)) daB
          exact fin B (by omega) sc stC (dpAll_app' daA daB) ((up bA).app (up bB)) (by omega) (by rw [List.length_append]; omega)
        refine ⟨_, rfl, rfl, _, rfl, ite2 (fun h1 => ?_) (fun h1 => ?_)⟩
        · refine ⟨_, rfl, _, rfl, _, _, rfl, rfl, _, rfl, slA_of lv stX daX bX fun H5 p1 y1 e1 s5 stA daA bA lA mA => ?_⟩
          have lv := lv.same s5
          have sc := sc.trans (sm_of (S := [b]) s5)
          have B := B.same s5
          have stX := same_tup ((sm_of (S := S) s5)) stX
          have daX := dpAll_same ((sm_of (S := S) s5)) daX
          refine ⟨_, rfl, _, rfl, _, rfl, ?_⟩
          dsimp only [tNoPart]
          refine slA_of (lo := some (at_ : Int)) (hi := none) lv stX daX bX fun H6 p2 y2 e2 s6 stB daB bB lB mB => ?_
          have lv := lv.same s6
          have sc := sc.trans (sm_of (S := [b]) s6)
          have B := B.same s6
          have stA := same_tup ((sm_of (S := S) s6)) stA
          have daA := dpAll_same ((sm_of (S := S) s6)) daA
          refine catA_of lv stA stB (sz (by omega)) fun H7 p3 s7 stC => ?_
          have lv := lv.same s7
          have sc := sc.trans (sm_of (S := [b]) s7)
          have B := B.same s7
          have daA := dpAll_same ((sm_of (S := S) s7)) daA
          have daB := dpAll_same ((sm_of (S := S) s7)) daB
          exact fin B (by omega) sc stC (dpAll_app' daA daB) ((up bA).app (up bB)) (by omega) (by rw [List.length_append]; omega)
        refine ⟨_, rfl, rfl, _, rfl, ite2 (fun h2 => ?_) (fun h2 => ?_)⟩
        · refine ⟨_, rfl, _, rfl, _, rfl, slA_of lv stX daX bX fun H5 p1 y1 e1 s5 stA daA bA lA mA => ?_⟩
          have lv := lv.same s5
          have sc := sc.trans (sm_of (S := [b]) s5)
          have B := B.same s5
          have stX := same_tup ((sm_of (S := S) s5)) stX
          have daX := dpAll_same ((sm_of (S := S) s5)) daX
          refine ⟨_, rfl, b, _, .non, .none, n, m, 4, 0, 0, rfl, B, by omega, .non, bd_none, n9, n5, m1, m9, fun H6 y ey B6 s6 dpY bY => ⟨(by show 1 ≤ sizeLine; decide), fun t nt => ?_⟩⟩
          rw [← eS] at dpY
          have lv := lv.box B6.bx s6
          have sc := sc.trans s6
          have B := B6
          have stX := same_tup ((sm_one hb s6)) stX
          have daX := dpAll_same ((sm_one hb s6)) daX
          have stA := same_tup ((sm_one hb s6)) stA
          have daA := dpAll_same ((sm_one hb s6)) daA
          have ft := off_new (o := .tup [y]) lv nt
          have lv := lv.put (o := .tup [y]) nt
          have B := B.put (o := .tup [y]) nt
          have sc := sc.trans (sm_put (S := [b]) (o := .tup [y]) nt)
          have stX := same_tup ((sm_put (S := S) (o := .tup [y]) nt)) stX
          have daX := dpAll_same ((sm_put (S := S) (o := .tup [y]) nt)) daX
          have stA := same_tup ((sm_put (S := S) (o := .tup [y]) nt)) stA
          have daA := dpAll_same ((sm_put (S := S) (o := .tup [y]) nt)) daA
          have dpY := dp_same ((sm_put (S := S) (o := .tup [y]) nt)) dpY
          generalize upd H6 t (.tup [y]) = H7 at ft lv B sc stX daX stA daA dpY ⊢
          refine catA_of lv stA (.inl (.inl ft)) (sz (by show _ + 1 ≤ _; omega)) fun H8 p2 s8 stC => ?_
          have lv := lv.same s8
          have sc := sc.trans (sm_of (S := [b]) s8)
          have B := B.same s8
          have stX := same_tup ((sm_of (S := S) s8)) stX
          have daX := dpAll_same ((sm_of (S := S) s8)) daX
          have daA := dpAll_same ((sm_of (S := S) s8)) daA
          have dpY := dp_same ((sm_of (S := S) s8)) dpY
          refine ⟨_, rfl, _, rfl, _, rfl, ?_⟩
          dsimp only [tNoPart]
          refine slA_of (lo := some (at_ : Int)) (hi := none) lv stX daX bX fun H9 p3 y3 e3 s9 stB daB bB lB mB => ?_
          have lv := lv.same s9
          have sc := sc.trans (sm_of (S := [b]) s9)
          have B := B.same s9
          have stC := same_tup ((sm_of (S := S) s9)) stC
          have daA := dpAll_same ((sm_of (S := S) s9)) daA
          have dpY := dp_same ((sm_of (S := S) s9)) dpY
          refine catA_of lv stC stB (sz (by rw [List.length_append]; show _ + 1 + _ ≤ _; omega)) fun HA p4 sA stD => ?_
          have lv := lv.same sA
          have sc := sc.trans (sm_of (S := [b]) sA)
          have B := B.same sA
          have daA := dpAll_same ((sm_of (S := S) sA)) daA
          have daB := dpAll_same ((sm_of (S := S) sA)) daB
          have dpY := dp_same ((sm_of (S := S) sA)) dpY
          have bY2 : Bds (3 * n) (m + 2) (30 * n + 3000 + 2) D (3 * W + 3) [ey] := Bds.one (bY.mono (Nat.le_refl _) (Nat.le_refl _) (Nat.le_refl _) D1 (by omega))
          exact fin B (by omega) sc stD (dpAll_app' (dpAll_app' daA (.cons dpY .nil)) daB) (((up bA).app bY2).app (up bB)) (by omega) (by rw [List.length_append, List.length_append]; show _ + 1 + _ ≤ _; omega)
        refine ⟨_, rfl, rfl, _, rfl, ite2 (fun h3 => ?_) (fun h3 => ?_)⟩
        · refine ⟨_, rfl, _, rfl, _, rfl, slA_of lv stX daX bX fun H5 p1 y1 e1 s5 stA daA bA lA mA => ?_⟩
          have lv := lv.same s5
          have sc := sc.trans (sm_of (S := [b]) s5)
          have B := B.same s5
          have stX := same_tup ((sm_of (S := S) s5)) stX
          have daX := dpAll_same ((sm_of (S := S) s5)) daX
          refine ⟨_, rfl, _, rfl, _, rfl, _, rfl, _, _, rfl, rfl, _, rfl, slA_of lv stX daX bX fun H6 p2 y2 e2 s6 stB daB bB lB mB => ⟨p2, y2, rfl, sqt_off stB, fun t nt => ?_⟩⟩
          have lv := lv.same s6
          have sc := sc.trans (sm_of (S := [b]) s6)
          have B := B.same s6
          have stX := same_tup ((sm_of (S := S) s6)) stX
          have daX := dpAll_same ((sm_of (S := S) s6)) daX
          have stA := same_tup ((sm_of (S := S) s6)) stA
          have daA := dpAll_same ((sm_of (S := S) s6)) daA
          have daR := dpAll_rev daB
          have ft := off_new (o := .tup y2.reverse) lv nt
          have lv := lv.put (o := .tup y2.reverse) nt
          have B := B.put (o := .tup y2.reverse) nt
          have sc := sc.trans (sm_put (S := [b]) (o := .tup y2.reverse) nt)
          have stX := same_tup ((sm_put (S := S) (o := .tup y2.reverse) nt)) stX
          have daX := dpAll_same ((sm_put (S := S) (o := .tup y2.reverse) nt)) daX
          have stA := same_tup ((sm_put (S := S) (o := .tup y2.reverse) nt)) stA
          have daA := dpAll_same ((sm_put (S := S) (o := .tup y2.reverse) nt)) daA
          have daR := dpAll_same ((sm_put (S := S) (o := .tup y2.reverse) nt)) daR
          generalize upd H6 t (.tup y2.reverse) = H7 at ft lv B sc stX daX stA daA daR ⊢
          refine catA_of lv stA (.inl (.inl ft)) (sz (by rw [List.length_reverse]; omega)) fun H8 p3 s8 stC => ?_
          have lv := lv.same s8
          have sc := sc.trans (sm_of (S := [b]) s8)
          have B := B.same s8
          have stX := same_tup ((sm_of (S := S) s8)) stX
          have daX := dpAll_same ((sm_of (S := S) s8)) daX
          have daA := dpAll_same ((sm_of (S := S) s8)) daA
          have daR := dpAll_same ((sm_of (S := S) s8)) daR
          refine ⟨_, rfl, _, rfl, _, _, rfl, rfl, _, rfl, ?_⟩
          dsimp only [tNoPart]
          refine slA_of (lo := some ((at_ : Int) + 2)) (hi := none) lv stX daX bX fun H9 p4 y3 e3 s9 stD daD bD lD mD => ?_
          have lv := lv.same s9
          have sc := sc.trans (sm_of (S := [b]) s9)
          have B := B.same s9
          have stC := same_tup ((sm_of (S := S) s9)) stC
          have daA := dpAll_same ((sm_of (S := S) s9)) daA
          have daR := dpAll_same ((sm_of (S := S) s9)) daR
          refine catA_of lv stC stD (sz (by rw [List.length_append, List.length_reverse]; omega)) fun HA p5 sA stE => ?_
          have lv := lv.same sA
          have sc := sc.trans (sm_of (S := [b]) sA)
          have B := B.same sA
          have daA := dpAll_same ((sm_of (S := S) sA)) daA
          have daD := dpAll_same ((sm_of (S := S) sA)) daD
          have daR := dpAll_same ((sm_of (S := S) sA)) daR
          exact fin B (by omega) sc stE (dpAll_app' (dpAll_app' daA daR) daD) (((up bA).app (up bB).rev).app (up bD)) (by omega) (by rw [List.length_append, List.length_append, List.length_reverse]; omega)
        refine ⟨_, rfl, rfl, _, rfl, ite2 (fun h4 => ?_) (fun h4 => ?_)⟩
        · refine ⟨(by show 7 ≤ sizeLine; decide), fun l nl => ?_⟩
          have lb := B.ne nl
          have fl := off_new (o := .lst [.str "fill", .str "wash", .str "empty", .str "gather", .str "break", .str "new", .str "melt"]) lv nl
          have lv := lv.put (o := .lst [.str "fill", .str "wash", .str "empty", .str "gather", .str "break", .str "new", .str "melt"]) nl
          have B := B.put (o := .lst [.str "fill", .str "wash", .str "empty", .str "gather", .str "break", .str "new", .str "melt"]) nl
          have sc := sc.trans (sm_put (S := [b]) (o := .lst [.str "fill", .str "wash", .str "empty", .str "gather", .str "break", .str "new", .str "melt"]) nl)
          have stX := same_tup ((sm_put (S := S) (o := .lst [.str "fill", .str "wash", .str "empty", .str "gather", .str "break", .str "new", .str "melt"]) nl)) stX
          have daX := dpAll_same ((sm_put (S := S) (o := .lst [.str "fill", .str "wash", .str "empty", .str "gather", .str "break", .str "new", .str "melt"]) nl)) daX
          generalize upd H4 l (.lst [.str "fill", .str "wash", .str "empty", .str "gather", .str "break", .str "new", .str "melt"]) = H5 at fl lv B sc stX daX ⊢
          refine ⟨_, rfl, _, rfl, b, _, .ref l, rfl, B, by omega, .inr ⟨l, _, rfl, lb, at_off fl, by decide, by decide, fun H6 i v hv B6 s6 => ⟨(by show 1 ≤ sizeLine; decide), fun t nt => ?_⟩⟩⟩
          obtain ⟨zw, rfl, bw⟩ : ∃ zw, v = .str zw ∧ Bd 9 1000 92 0 0 (.str zw) := by
            have bs : ∀ (z : String), (Str.ofString z).length ≤ 9 → (Str.ofString z).cps.toList.all (fun c => decide (c < 128)) = true → Bd 9 1000 92 0 0 (.str (Str.ofString z)) := fun z h1 h2 => bd_str h1 (by decide) (ascii_of h2)
            have hm := List.mem_of_getElem? hv
            simp only [List.mem_cons, List.not_mem_nil, or_false] at hm
            rcases hm with rfl | rfl | rfl | rfl | rfl | rfl | rfl
            · exact ⟨_, rfl, bs "fill" (by decide +kernel) (by decide +kernel)⟩
            · exact ⟨_, rfl, bs "wash" (by decide +kernel) (by decide +kernel)⟩
            · exact ⟨_, rfl, bs "empty" (by decide +kernel) (by decide +kernel)⟩
            · exact ⟨_, rfl, bs "gather" (by decide +kernel) (by decide +kernel)⟩
            · exact ⟨_, rfl, bs "break" (by decide +kernel) (by decide +kernel)⟩
            · exact ⟨_, rfl, bs "new" (by decide +kernel) (by decide +kernel)⟩
            · exact ⟨_, rfl, bs "melt" (by decide +kernel) (by decide +kernel)⟩
          have lv := lv.box B6.bx s6
          have sc := sc.trans s6
          have B := B6
          have stX := same_tup ((sm_one hb s6)) stX
          have daX := dpAll_same ((sm_one hb s6)) daX
          have ft := off_new (o := .tup [.str zw]) lv nt
          have lv := lv.put (o := .tup [.str zw]) nt
          have B := B.put (o := .tup [.str zw]) nt
          have sc := sc.trans (sm_put (S := [b]) (o := .tup [.str zw]) nt)
          have stX := same_tup ((sm_put (S := S) (o := .tup [.str zw]) nt)) stX
          have daX := dpAll_same ((sm_put (S := S) (o := .tup [.str zw]) nt)) daX
          generalize upd H6 t (.tup [.str zw]) = H7 at ft lv B sc stX daX ⊢
          have stT : SqT K (off H7 S) t [.str zw] := .inl (.inl ft)
          refine ⟨_, rfl, 1, rfl, ?_⟩
          dsimp only [tNoPart]
          refine slA_of (lo := some (1 : Int)) (hi := none) lv stX daX bX fun H8 p3 y3 e3 s8 stB daB bB lB mB => ?_
          have lv := lv.same s8
          have sc := sc.trans (sm_of (S := [b]) s8)
          have B := B.same s8
          have stT := same_tup ((sm_of (S := S) s8)) stT
          refine catA_of lv stT stB (sz (by show 1 + _ ≤ _; omega)) fun HA p5 sA stE => ?_
          have lv := lv.same sA
          have sc := sc.trans (sm_of (S := [b]) sA)
          have B := B.same sA
          have daB := dpAll_same ((sm_of (S := S) sA)) daB
          have bW2 : Bds (3 * n) (m + 2) (92 + 2) D (3 * W + 3) [.str zw] := Bds.one (bw.mono (by omega) (by omega) (Nat.le_refl _) (by omega) (by omega))
          exact fin B (by omega) sc stE (dpAll_app' (.cons (.str _) .nil) daB) (bW2.app (up bB)) (by omega) (by rw [List.length_append]; show 1 + _ ≤ _; omega)
        · refine ⟨_, rfl, _, rfl, _, rfl, slA_of lv stX daX bX fun H5 p1 y1 e1 s5 stA daA bA lA mA => ?_⟩
          have lv := lv.same s5
          have sc := sc.trans (sm_of (S := [b]) s5)
          have B := B.same s5
          have stX := same_tup ((sm_of (S := S) s5)) stX
          have daX := dpAll_same ((sm_of (S := S) s5)) daX
          obtain ⟨dv, gdv, dpv⟩ := dpAll_at daX (List.getElem?_eq_getElem hat)
          have bv := bX.mem (List.mem_of_getElem? gdv)
          rw [eS] at dpv
          refine ⟨_, rfl, _, rfl, _, rfl, a, xs, (at_ : Int), _, rfl, rfl, sqt_off stX, atI_nat (List.getElem?_eq_getElem hat), b, _, _, dv, n, m, C - 3, D - 1, W, rfl, B, by omega, dpv, bv, by omega, n9, n5, m1, m9, W1, W9, by omega, fun H6 y ey B6 s6 dpY bY => ⟨(by show 1 ≤ sizeLine; decide), fun t nt => ?_⟩⟩
          rw [← eS] at dpY
          have lv := lv.box B6.bx s6
          have sc := sc.trans s6
          have B := B6
          have stX := same_tup ((sm_one hb s6)) stX
          have daX := dpAll_same ((sm_one hb s6)) daX
          have stA := same_tup ((sm_one hb s6)) stA
          have daA := dpAll_same ((sm_one hb s6)) daA
          have ft := off_new (o := .tup [y]) lv nt
          have lv := lv.put (o := .tup [y]) nt
          have B := B.put (o := .tup [y]) nt
          have sc := sc.trans (sm_put (S := [b]) (o := .tup [y]) nt)
          have stX := same_tup ((sm_put (S := S) (o := .tup [y]) nt)) stX
          have daX := dpAll_same ((sm_put (S := S) (o := .tup [y]) nt)) daX
          have stA := same_tup ((sm_put (S := S) (o := .tup [y]) nt)) stA
          have daA := dpAll_same ((sm_put (S := S) (o := .tup [y]) nt)) daA
          have dpY := dp_same ((sm_put (S := S) (o := .tup [y]) nt)) dpY
          generalize upd H6 t (.tup [y]) = H7 at ft lv B sc stX daX stA daA dpY ⊢
          refine catA_of lv stA (.inl (.inl ft)) (sz (by show _ + 1 ≤ _; omega)) fun H8 p2 s8 stC => ?_
          have lv := lv.same s8
          have sc := sc.trans (sm_of (S := [b]) s8)
          have B := B.same s8
          have stX := same_tup ((sm_of (S := S) s8)) stX
          have daX := dpAll_same ((sm_of (S := S) s8)) daX
          have daA := dpAll_same ((sm_of (S := S) s8)) daA
          have dpY := dp_same ((sm_of (S := S) s8)) dpY
          refine ⟨_, rfl, _, rfl, _, _, rfl, rfl, _, rfl, ?_⟩
          dsimp only [tNoPart]
          refine slA_of (lo := some ((at_ : Int) + 1)) (hi := none) lv stX daX bX fun H9 p3 y3 e3 s9 stB daB bB lB mB => ?_
          have lv := lv.same s9
          have sc := sc.trans (sm_of (S := [b]) s9)
          have B := B.same s9
          have stC := same_tup ((sm_of (S := S) s9)) stC
          have daA := dpAll_same ((sm_of (S := S) s9)) daA
          have dpY := dp_same ((sm_of (S := S) s9)) dpY
          refine catA_of lv stC stB (sz (by rw [List.length_append]; show _ + 1 + _ ≤ _; omega)) fun HA p4 sA stD => ?_
          have lv := lv.same sA
          have sc := sc.trans (sm_of (S := [b]) sA)
          have B := B.same sA
          have daA := dpAll_same ((sm_of (S := S) sA)) daA
          have daB := dpAll_same ((sm_of (S := S) sA)) daB
          have dpY := dp_same ((sm_of (S := S) sA)) dpY
          have hR : (C - 3) * (D - 1 + 1) ≤ C * D := Nat.mul_le_mul (Nat.sub_le _ _) (by omega)
          have bY2 : Bds (3 * n) (m + 2) (3 * ((C - 3) * (D - 1 + 1)) + 30 * n + 4000 + 2) D (3 * W + 3) [ey] := Bds.one (bY.mono (Nat.le_refl _) (Nat.le_refl _) (Nat.le_refl _) (by omega) (Nat.le_refl _))
          exact fin B (by omega) sc stD (dpAll_app' (dpAll_app' daA (.cons dpY .nil)) daB) (((up bA).app bY2).app (up bB)) (by omega) (by rw [List.length_append, List.length_append]; show _ + 1 + _ ≤ _; omega)
      | str z => exact ⟨_, rfl, _, rfl, odd B (by omega) sc (.str _)⟩
      | int _ => exact ⟨_, rfl, _, rfl, odd B (by omega) sc (.int _)⟩
      | bl b => exact ⟨_, rfl, _, rfl, odd B (by omega) sc (.bl _)⟩
      | non => exact ⟨_, rfl, _, rfl, odd B (by omega) sc .non⟩
      | lst h1 h2 => exact ⟨_, rfl, _, rfl, odd B (by omega) sc (.lst h1 h2)⟩

end
end Pot

namespace Pot
open PySem PySem.Spec PyProof.Rows L2
section
variable {P : Program} {w : World} {K : PySem.W.Frag} {mg : Str → Option Value} {base : Heap}
def BdI : Nat → PyData → Prop
  | 0, e => Bd 9 1000 2403 1 5 e
  | 1, e => Bd 27 1002 18688 2 18 e
  | 2, e => Bd 81 1004 173002 3 57 e
  | _, e => Bd 243 1006 2082454 4 174 e
theorem bdi_top {i : Nat} {e : PyData} (h : BdI i e) : Bd 243 1006 2082454 4 174 e := by
  match i, h with
  | 0, h => exact Bd.mono h (by decide) (by decide) (by decide) (by decide) (by decide)
  | 1, h => exact Bd.mono h (by decide) (by decide) (by decide) (by decide) (by decide)
  | 2, h => exact Bd.mono h (by decide) (by decide) (by decide) (by decide) (by decide)
  | _ + 3, h => exact h
abbrev s_law : Stmt := topS 22
def n_law : List Str := ["_law_script", "_law_cells", "_law_k", "_law_box", "_law_turn", "_law_deed", "_law_bent_here", "_law_again", "_law_thing", "_law_kept", "_law_found", "_law_fixed"]
theorem sc_law : FnScope n_law ["_law_script"] (defScope s_law) := ⟨rfl, rfl, rfl, by decide +kernel, rfl, by decide +kernel, by decide +kernel⟩
def spLaw (K : PySem.W.Frag) : Sp := fun vs H Q _ => ∃ (a : Addr) (ns : List Int), vs = [.ref a] ∧ SqL K H a (ns.map V.int) ∧ ns.length ≤ 63 ∧ ∀ H', Q (.bl true) H'
set_option maxHeartbeats 4000000 in
theorem ok_law {f : Addr} {fd : FuncData} {k : Nat} (F : Fun K "law" "law" s_law f fd) (T : Txt mg) (c__law_folded : Cl P w K mg base (k + 1) "_law_folded" (spFolded K)) (c__law_draws : Cl P w K mg base (k + 1) "_law_draws" (spDraws K)) (c__law_any_deed : Cl P w K mg base (k + 4) "_law_any_deed" (spAny K)) (c_is_deed : Cl P w K mg base (k + 4) "is_deed" (spDeed K)) (c__law_is_one : Cl P w K mg base (k + 2) "_law_is_one" (spDeed K)) (c__law_take : Cl P w K mg base (k + 1) "_law_take" spTake) (c__law_bent : Cl P w K mg base (k + 8) "_law_bent" (spBentK K 4)) : FnG P w K mg base (k + 9) f fd ["_law_script"] (spLaw K) := by
  refine okG F sc_law (fun vs H Q E h => ?_) (fun cdv A outer s H vs Q gd hr h => ?_)
  · obtain ⟨a, ns, rfl, _⟩ := h
    rfl
  · obtain ⟨a, ns, rfl, hS, h63, q⟩ := h
    have nd := sc_law.nd
    have hu64 := hr.units
    /- 0 _law_script, 1 _law_cells, 2 _law_k, 3 _law_box, 4 _law_turn, 5 _law_deed, 6 _law_bent_here, 7 _law_again, 8 _law_thing, 9 _law_kept, 10 _law_found, 11 _law_fixed -/
    refine ⟨_, (pss_cons (ps_set (i := 1) nd rfl (.inl rfl) (pe_cl c__law_folded hr (by omega) (by rfl) (pa_cons (pv 0) (pa_cons pe_int pa_nil))))
      (pss_cons (ps_for PassesOwn.never rfl (pi_range1 (by rfl) T.range (pa_cons (pe_callB (kc_len (K := K)) (by rfl) T.len PySem.boot_len (pa_cons (pv 1) pa_nil)) pa_nil)) (pg_name (i := 2) nd rfl (.inl rfl))
          (pss_cons (ps_set (i := 3) nd rfl (.inl rfl) (pe_cl c__law_draws hr (by omega) (by rfl) (pa_cons (pv 1) (pa_cons (pv 2) pa_nil))))
          (pss_one (ps_for PassesOwn.never rfl (pi_range1 (by rfl) T.range (pa_cons pe_int pa_nil)) (pg_name (i := 4) nd rfl (.inl rfl))
              (pss_cons (ps_set (i := 5) nd rfl (.inl rfl) (pe_cl c__law_any_deed hr (by omega) (by rfl) (pa_cons (pv 3) pa_nil)))
              (pss_cons (ps_if ((pw_or (pt_cmpR op_notBl (pe_cl c_is_deed hr (by omega) (by rfl) (pa_cons (pv 5) pa_nil)) pe_bl (nomark _)) (pw_or1 (pt_not (pt_val (pe_cl c__law_is_one hr (by omega) (by rfl) (pa_cons (pv 5) pa_nil))))))).pt
                  pss_never
                  pss_nil)
              (pss_cons (ps_set (i := 6) nd rfl (.inl rfl) (pv 5))
              (pss_cons (ps_for PassesOwn.never rfl (pi_range1 (by rfl) T.range (pa_cons (pe_op op_add pe_int (pe_cl c__law_take hr (by omega) (by rfl) (pa_cons (pv 3) (pa_cons pe_int pa_nil)))) pa_nil)) (pg_name (i := 7) nd rfl (.inl rfl))
                  (pss_one (ps_set (i := 6) nd rfl (.inl rfl) (pe_cl c__law_bent hr (by omega) (by rfl) (pa_cons (pv 3) (pa_cons (pv 6) pa_nil))))))
              (pss_one (ps_for PassesOwn.never rfl (ki_tup (K := K) (pe_tup (pa_cons (pv 6) (pa_cons (pe_callTy (kc_list (K := K)) (by rfl) T.list (by decide +kernel) (pa_cons (pv 5) pa_nil)) (pa_cons (pe_tup (pa_cons (pv 5) pa_nil)) (pa_cons (pe_slice (kl_tup (K := K)) (pv 5) po_none (po_some pe_int)) (pa_cons (pe_lst (pa_cons (pv 5) (pa_cons pe_int pa_nil))) pa_nil))))))) (pg_name (i := 8) nd rfl (.inl rfl))
                  (pss_cons (ps_par (i := 9) (j := 10) rfl nd rfl rfl (by decide) rfl rfl (pa_cons (pe_callB (kc_reprA (K := K) gd hu64) (by rfl) T.repr (by decide +kernel) (pa_cons (pv 8) pa_nil)) (pa_cons (pe_cl c_is_deed hr (by omega) (by rfl) (pa_cons (pv 8) pa_nil)) pa_nil)) rfl)
                  (pss_one (ps_if ((pw_or (pt_not (pt_val (pe_callB (kc_isi (K := K)) (by rfl) T.isinstance (by decide +kernel) (pa_cons (pv 10) (pa_cons (pe_bltn (v := .ty "bool") (by rfl) T.bool (by decide +kernel) rfl) pa_nil))))) (pw_or (pt_cmpR op_ne (pv 10) (pe_cl c__law_is_one hr (by omega) (by rfl) (pa_cons (pv 8) pa_nil)) (nomark _)) (pw_or1 (pt_cmpR op_ne (pe_callB (kc_reprA (K := K) gd hu64) (by rfl) T.repr (by decide +kernel) (pa_cons (pv 8) pa_nil)) (pv 9) (nomark _)))))).pt
                      pss_never
                      pss_nil)))))))))))))
      (pss_cons (ps_set (i := 11) nd rfl (.inl rfl) (pe_lst (pa_cons (pe_tup pa_nil) (pa_cons (pe_lst pa_nil) (pa_cons pe_non (pa_cons pe_bl (pa_cons pe_str (pa_cons (pe_tup (pa_cons pe_str pa_nil)) (pa_cons (pe_tup (pa_cons pe_str (pa_cons pe_str pa_nil))) (pa_cons (pe_tup (pa_cons pe_str (pa_cons pe_str (pa_cons pe_str (pa_cons pe_str pa_nil))))) (pa_cons (pe_tup (pa_cons (pe_tup (pa_cons pe_str pa_nil)) (pa_cons pe_str (pa_cons pe_str pa_nil)))) pa_nil)))))))))))
      (pss_cons (ps_set (i := 11) nd rfl (.inl rfl) (pe_op op_cat (pv 11) (pe_lst (pa_cons (pe_tup (pa_cons pe_str (pa_cons pe_str (pa_cons pe_bl pa_nil)))) (pa_cons (pe_tup (pa_cons pe_str (pa_cons pe_str (pa_cons pe_int pa_nil)))) (pa_cons (pe_tup (pa_cons pe_str (pa_cons pe_str (pa_cons (pe_un un_neg pe_int) pa_nil)))) (pa_cons (pe_tup (pa_cons pe_str (pa_cons pe_str (pa_cons pe_str (pa_cons pe_str (pa_cons pe_int pa_nil)))))) pa_nil)))))))
      (pss_cons (ps_set (i := 11) nd rfl (.inl rfl) (pe_op op_cat (pv 11) (pe_lst (pa_cons (pe_tup (pa_cons pe_str (pa_cons pe_str (pa_cons pe_str (pa_cons pe_str (pa_cons pe_bl pa_nil)))))) (pa_cons (pe_tup (pa_cons pe_str (pa_cons pe_str pa_nil))) (pa_cons (pe_tup (pa_cons pe_str (pa_cons pe_str pa_nil))) (pa_cons (pe_tup (pa_cons (pe_lst pa_nil) (pa_cons pe_str pa_nil))) (pa_cons (pe_tup (pa_cons pe_non (pa_cons pe_str pa_nil))) pa_nil))))))))
      (pss_one (ps_ret (pe_and (pe_not (pe_callB (kc_any (K := K)) (by rfl) T.any (by decide +kernel) (pa_cons (pe_lc (own := [("_law_thing", 8)]) rfl nd (ki_list (K := K) (pv 11)) (blkOk_by (N := n_law) (sc := defScope s_law) (by decide +kernel)) (fun _ _ _ _ _ => (pg_name (i := 8) nd rfl (.inl rfl))) (fun _ _ _ _ _ => pts_nil) (fun _ _ _ _ _ => (pe_cmpR op_notBl (pe_cl c_is_deed hr (by omega) (by rfl) (pa_cons (pv 8) pa_nil)) pe_bl (nomark _)))) pa_nil))) (pe_one (pe_cmpR op_isBl (pe_cl c_is_deed hr (by omega) (by rfl) (pa_cons (pe_tup (pa_cons pe_str (pa_cons pe_str pa_nil))) pa_nil)) pe_bl (nomark _))))))))))), ?_⟩
    refine ⟨_, rfl, a, ns, rfl, hS, h63, fun H1 C ms s1 nC hC l1 l6 => ?_⟩
    refine ⟨_, rfl, _, _, rfl, .inl ⟨_, SqL.of hC, rfl⟩, _, rfl, (by rw [List.length_map]; omega), (by rw [List.length_map]; omega), ?_⟩
    refine for_it walk_range (fun i σ H2 => ∃ v2 v3 v4 v5 v6 v7 v8 v9 v10, σ = [some (.ref a), some (.ref C), v2, v3, v4, v5, v6, v7, v8, v9, v10, none] ∧ H2 C = some (.lst (ms.map V.int))) ⟨_, _, _, _, _, _, _, _, _, rfl, hC⟩ (fun _ _ _ _ _ => trivial) ?_ ?_
    · clear hC
      rintro i x σ H2 H3 hi ⟨v2, v3, v4, v5, v6, v7, v8, v9, v10, rfl, hC⟩ ⟨rfl, rfl⟩
      have hi2 : i < ms.length := by rw [List.length_map] at hi; omega
      simp only [gName, List.set]
      refine ⟨_, rfl, _, rfl, C, ms, i, (by show [_, V.int (0 + (i : Int))] = _; rw [Int.zero_add]), SqL.of hC, hi2, by omega, fun H4 b s4 nb B => ?_⟩
      have Cb : C ≠ b := ne_of_none hC nb
      have hC := s4 _ _ hC
      clear s4 nb
      simp only [gName, List.set]
      refine ⟨_, rfl, (by decide), (by decide), ?_⟩
      refine for_it walk_range (fun j σ Hy => ∃ v4 v5 v6 v7 v8 v9 v10, σ = [some (.ref a), some (.ref C), some (.int (0 + (i : Int))), some (.ref b), v4, v5, v6, v7, v8, v9, v10, none] ∧ Bp Hy b (200 * j) ∧ Hy C = some (.lst (ms.map V.int))) ⟨_, _, _, _, _, _, _, rfl, B, hC⟩ (fun _ _ _ _ _ => trivial) ?_ ?_
      · clear B hC
        rintro j x σ Hy H5 hj ⟨v4, v5, v6, v7, v8, v9, v10, rfl, B, hC⟩ ⟨rfl, rfl⟩
        have hj14 : j < 14 := hj
        simp only [gName, List.set]
        have lv := Live.pw B
        have sc : Sm [b] H5 H5 := Same.refl _
        obtain ⟨S, eS⟩ : ∃ S, S = [b] := ⟨_, rfl⟩
        have hb : b ∈ S := by rw [eS]; simp
        rw [← eS] at lv
        have fC : off H5 S C = some (.lst (ms.map V.int)) := by rw [eS, off_out (by simp [Cb])]; exact hC
        refine ⟨_, rfl, b, _, rfl, B, by omega, fun H6 p xs ds B6 s6 stX daX dd ok => ?_⟩
        rw [← eS] at stX daX
        have lv := lv.box B6.bx s6
        have sc := sc.trans s6
        have B := B6
        have fC := (sm_one hb s6) _ _ fC
        obtain ⟨bds, l5, l1d⟩ := ok
        have bd0 : Bd 9 1000 2403 1 5 (.tuple ds) := bds.tuple l5
        simp only [gName, List.set]
        refine ⟨_, rfl, .ref p, .tuple ds, 1000, rfl, dp_off (.tup stX daX), bd0.t.g, fun H7 s7 => ?_⟩
        have lv := lv.same s7
        have sc := sc.trans (sm_of (S := [b]) s7)
        have B := B.same s7
        have fC := (sm_of (S := S) s7) _ _ fC
        have stX := same_tup ((sm_of (S := S) s7)) stX
        have daX := dpAll_same ((sm_of (S := S) s7)) daX
        rw [dd]
        refine ⟨true, true, rfl, rfl, _, rfl, iteF ?_⟩
        refine ⟨_, rfl, .ref p, .tuple ds, 1000, rfl, dp_off (.tup stX daX), bd0.t.g, fun H8 s8 => ?_⟩
        have lv := lv.same s8
        have sc := sc.trans (sm_of (S := [b]) s8)
        have B := B.same s8
        have fC := (sm_of (S := S) s8) _ _ fC
        have stX := same_tup ((sm_of (S := S) s8)) stX
        have daX := dpAll_same ((sm_of (S := S) s8)) daX
        rw [dd]
        refine ⟨_, rfl, iteF ?_⟩
        refine ⟨_, rfl, ?_⟩
        simp only [gName, List.set]
        clear dd
        refine ⟨_, rfl, b, 3, _, rfl, (by decide), (by decide), B, by omega, fun H9 tn t0 t1 B9 s9 => ⟨_, _, rfl, rfl, _, rfl, (by omega), (by omega), ?_⟩⟩
        have lv := lv.box B9.bx s9
        have sc := sc.trans s9
        have B := B9
        have fC := (sm_one hb s9) _ _ fC
        have stX := same_tup ((sm_one hb s9)) stX
        have daX := dpAll_same ((sm_one hb s9)) daX
        refine for_it walk_range (fun jj σ Hz => ∃ v7 y e, σ = [some (.ref a), some (.ref C), some (.int (0 + (i : Int))), some (.ref b), some (.int (0 + (j : Int))), some (.ref p), some y, v7, v8, v9, v10, none] ∧ Bp Hz b (200 * j + 31 + 32 * jj) ∧ off Hz S C = some (.lst (ms.map V.int)) ∧ SqT K (off Hz S) p xs ∧ DpAll K (off Hz S) xs ds ∧ Dp K (off Hz S) y e ∧ BdI jj e)
          ⟨_, _, _, rfl, B, fC, stX, daX, .tup stX daX, bd0⟩ (fun _ _ _ _ _ => trivial) ?_ ?_
        · clear B fC stX daX lv sc
          rintro jj x σ Hz HA hjj ⟨v7, y, e, rfl, B, fC, stX, daX, dpY, bY⟩ ⟨rfl, rfl⟩
          have lv : Live S HA := by rw [eS]; exact Live.pw B
          have sc : Sm [b] HA HA := Same.refl _
          have h3 : jj = 0 ∨ jj = 1 ∨ jj = 2 := by omega
          simp only [gName, List.set]
          rcases h3 with rfl | rfl | rfl
          · refine ⟨_, rfl, _, rfl, b, _, y, e, 9, 1000, 2403, 1, 5, rfl, B, by omega, by rw [eS] at dpY; exact dpY, bY, by decide, by decide, by decide, by decide, by decide, by decide, by decide, by decide, fun H' y' e' B' s' d' b' => ?_⟩
            have lv := lv.box B'.bx s'
            have sc := sc.trans s'
            have B := B'
            have fC := (sm_one hb s') _ _ fC
            have stX := same_tup ((sm_one hb s')) stX
            have daX := dpAll_same ((sm_one hb s')) daX
            exact ⟨_, _, _, rfl, B.mono (by omega), fC, stX, daX, by rw [eS]; exact d', Bd.mono b' (by decide) (by decide) (by decide) (by decide) (by decide)⟩
          · refine ⟨_, rfl, _, rfl, b, _, y, e, 27, 1002, 18688, 2, 18, rfl, B, by omega, by rw [eS] at dpY; exact dpY, bY, by decide, by decide, by decide, by decide, by decide, by decide, by decide, by decide, fun H' y' e' B' s' d' b' => ?_⟩
            have lv := lv.box B'.bx s'
            have sc := sc.trans s'
            have B := B'
            have fC := (sm_one hb s') _ _ fC
            have stX := same_tup ((sm_one hb s')) stX
            have daX := dpAll_same ((sm_one hb s')) daX
            exact ⟨_, _, _, rfl, B.mono (by omega), fC, stX, daX, by rw [eS]; exact d', Bd.mono b' (by decide) (by decide) (by decide) (by decide) (by decide)⟩
          · refine ⟨_, rfl, _, rfl, b, _, y, e, 81, 1004, 173002, 3, 57, rfl, B, by omega, by rw [eS] at dpY; exact dpY, bY, by decide, by decide, by decide, by decide, by decide, by decide, by decide, by decide, fun H' y' e' B' s' d' b' => ?_⟩
            have lv := lv.box B'.bx s'
            have sc := sc.trans s'
            have B := B'
            have fC := (sm_one hb s') _ _ fC
            have stX := same_tup ((sm_one hb s')) stX
            have daX := dpAll_same ((sm_one hb s')) daX
            exact ⟨_, _, _, rfl, B.mono (by omega), fC, stX, daX, by rw [eS]; exact d', Bd.mono b' (by decide) (by decide) (by decide) (by decide) (by decide)⟩
        rintro σ HB ⟨v7, y, e, rfl, B, fC, stX, daX, dpY, bY⟩
        have bY := bdi_top bY
        have B := B.mono (show _ ≤ 200 * (j + 1) by omega)
        have lv : Live S HB := by rw [eS]; exact Live.pw B
        have sc : Sm [b] HB HB := Same.refl _
        refine ⟨_, rfl, _, rfl, p, _, rfl, .inr (sqt_off stX), fun l1 nl1 => ?_⟩
        have g1 := off_new (o := .lst xs) lv nl1
        have lv := lv.put (o := .lst xs) nl1
        have B := B.put (o := .lst xs) nl1
        have sc := sc.trans (sm_put (S := [b]) (o := .lst xs) nl1)
        have fC := (sm_put (S := S) (o := .lst xs) nl1) _ _ fC
        have stX := same_tup ((sm_put (S := S) (o := .lst xs) nl1)) stX
        have daX := dpAll_same ((sm_put (S := S) (o := .lst xs) nl1)) daX
        have dpY := dp_same ((sm_put (S := S) (o := .lst xs) nl1)) dpY
        generalize upd HB l1 (.lst xs) = HC at g1 lv B sc fC stX daX dpY ⊢
        refine ⟨_, rfl, (by show 1 ≤ sizeLine; decide), fun t1 nt1 => ?_⟩
        have g2 := off_new (o := .tup [.ref p]) lv nt1
        have lv := lv.put (o := .tup [.ref p]) nt1
        have B := B.put (o := .tup [.ref p]) nt1
        have sc := sc.trans (sm_put (S := [b]) (o := .tup [.ref p]) nt1)
        have fC := (sm_put (S := S) (o := .tup [.ref p]) nt1) _ _ fC
        have g1 := (sm_put (S := S) (o := .tup [.ref p]) nt1) _ _ g1
        have stX := same_tup ((sm_put (S := S) (o := .tup [.ref p]) nt1)) stX
        have daX := dpAll_same ((sm_put (S := S) (o := .tup [.ref p]) nt1)) daX
        have dpY := dp_same ((sm_put (S := S) (o := .tup [.ref p]) nt1)) dpY
        generalize upd HC t1 (.tup [.ref p]) = HD at g2 lv B sc fC g1 stX daX dpY ⊢
        refine ⟨_, rfl, 1, rfl, slA_of lv stX daX bds fun HE p5 y5 e5 s5 st5 da5 b5 le5 _ => ?_⟩
        have lv := lv.same s5
        have sc := sc.trans (sm_of (S := [b]) s5)
        have B := B.same s5
        have fC := (sm_of (S := S) s5) _ _ fC
        have g1 := (sm_of (S := S) s5) _ _ g1
        have g2 := (sm_of (S := S) s5) _ _ g2
        have stX := same_tup ((sm_of (S := S) s5)) stX
        have daX := dpAll_same ((sm_of (S := S) s5)) daX
        have dpY := dp_same ((sm_of (S := S) s5)) dpY
        refine ⟨_, rfl, (by show 2 ≤ sizeLine; decide), fun l2 nl2 => ⟨(by show 5 ≤ sizeLine; decide), fun t2 nt2 => ?_⟩⟩
        have g3 := off_new (o := .lst [.ref p, .int 1]) lv nl2
        have lv := lv.put (o := .lst [.ref p, .int 1]) nl2
        have B := B.put (o := .lst [.ref p, .int 1]) nl2
        have sc := sc.trans (sm_put (S := [b]) (o := .lst [.ref p, .int 1]) nl2)
        have fC := (sm_put (S := S) (o := .lst [.ref p, .int 1]) nl2) _ _ fC
        have g1 := (sm_put (S := S) (o := .lst [.ref p, .int 1]) nl2) _ _ g1
        have g2 := (sm_put (S := S) (o := .lst [.ref p, .int 1]) nl2) _ _ g2
        have st5 := same_tup ((sm_put (S := S) (o := .lst [.ref p, .int 1]) nl2)) st5
        have da5 := dpAll_same ((sm_put (S := S) (o := .lst [.ref p, .int 1]) nl2)) da5
        have stX := same_tup ((sm_put (S := S) (o := .lst [.ref p, .int 1]) nl2)) stX
        have daX := dpAll_same ((sm_put (S := S) (o := .lst [.ref p, .int 1]) nl2)) daX
        have dpY := dp_same ((sm_put (S := S) (o := .lst [.ref p, .int 1]) nl2)) dpY
        generalize upd HE l2 (.lst [.ref p, .int 1]) = HF at g3 lv B sc nt2 fC g1 g2 st5 da5 stX daX dpY ⊢
        have g4 := off_new (o := .tup [y, .ref l1, .ref t1, .ref p5, .ref l2]) lv nt2
        have lv := lv.put (o := .tup [y, .ref l1, .ref t1, .ref p5, .ref l2]) nt2
        have B := B.put (o := .tup [y, .ref l1, .ref t1, .ref p5, .ref l2]) nt2
        have sc := sc.trans (sm_put (S := [b]) (o := .tup [y, .ref l1, .ref t1, .ref p5, .ref l2]) nt2)
        have fC := (sm_put (S := S) (o := .tup [y, .ref l1, .ref t1, .ref p5, .ref l2]) nt2) _ _ fC
        have g1 := (sm_put (S := S) (o := .tup [y, .ref l1, .ref t1, .ref p5, .ref l2]) nt2) _ _ g1
        have g2 := (sm_put (S := S) (o := .tup [y, .ref l1, .ref t1, .ref p5, .ref l2]) nt2) _ _ g2
        have g3 := (sm_put (S := S) (o := .tup [y, .ref l1, .ref t1, .ref p5, .ref l2]) nt2) _ _ g3
        have st5 := same_tup ((sm_put (S := S) (o := .tup [y, .ref l1, .ref t1, .ref p5, .ref l2]) nt2)) st5
        have da5 := dpAll_same ((sm_put (S := S) (o := .tup [y, .ref l1, .ref t1, .ref p5, .ref l2]) nt2)) da5
        have stX := same_tup ((sm_put (S := S) (o := .tup [y, .ref l1, .ref t1, .ref p5, .ref l2]) nt2)) stX
        have daX := dpAll_same ((sm_put (S := S) (o := .tup [y, .ref l1, .ref t1, .ref p5, .ref l2]) nt2)) daX
        have dpY := dp_same ((sm_put (S := S) (o := .tup [y, .ref l1, .ref t1, .ref p5, .ref l2]) nt2)) dpY
        generalize upd HF t2 (.tup [y, .ref l1, .ref t1, .ref p5, .ref l2]) = HG at g4 lv B sc fC g1 g2 g3 st5 da5 stX daX dpY ⊢
        have things : ∀ v ∈ [y, V.ref l1, .ref t1, .ref p5, .ref l2], ∃ e, Dp K HG v e ∧ Bd 243 1006 2090000 6 200 e := by
          have dpd : Dp K (off HG S) (.ref p) (.tuple ds) := .tup stX daX
          have up : ∀ {n' m' C' D' W' : Nat} {dd : PyData}, Bd n' m' C' D' W' dd → n' ≤ 243 → m' ≤ 1006 → C' ≤ 2090000 → D' ≤ 6 → W' ≤ 200 → Bd 243 1006 2090000 6 200 dd := fun h a b c d e => h.mono a b c d e
          intro v hv
          simp only [List.mem_cons, List.not_mem_nil, or_false] at hv
          rcases hv with rfl | rfl | rfl | rfl | rfl
          · exact ⟨e, dp_off dpY, up bY (by decide) (by decide) (by decide) (by decide) (by decide)⟩
          · exact ⟨.list ds, dp_off (.lst (SqL.of g1) daX), up (bds.list l5) (by decide) (by decide) (by decide) (by decide) (by decide)⟩
          · exact ⟨.tuple [.tuple ds], dp_off (.tup (.inl (.inl g2)) (.cons dpd .nil)), up ((Bds.one bd0).tuple (by show 1 ≤ 5; decide)) (by decide) (by decide) (by decide) (by decide) (by decide)⟩
          · exact ⟨.tuple e5, dp_off (.tup st5 da5), up (b5.tuple (by omega)) (by decide) (by decide) (by decide) (by decide) (by decide)⟩
          · exact ⟨.list [.tuple ds, .int 1], dp_off (.lst (SqL.of g3) (.cons dpd (.cons (.int _) .nil))), up (((Bds.one bd0).app (Bds.one ((bd_int (by decide)).mono (Nat.le_refl _) (Nat.le_refl _) (Nat.le_refl _) (Nat.zero_le _) (Nat.zero_le _)))).list (by show 2 ≤ 5; decide)) (by decide) (by decide) (by decide) (by decide) (by decide)⟩
        have hT : SqT K HG t2 [y, .ref l1, .ref t1, .ref p5, .ref l2] := .inl (.inl (at_off g4))
        have hC := at_off fC
        generalize [y, V.ref l1, .ref t1, .ref p5, .ref l2] = tx at things hT
        refine ⟨t2, rfl, ⟨_, hT⟩, ?_⟩
        refine for_it (walk_tup (xs := tx)) (fun jj σ Hx => ∃ v8 v9 v10, σ = [some (.ref a), some (.ref C), some (.int (0 + (i : Int))), some (.ref b), some (.int (0 + (j : Int))), some (.ref p), some y, v7, v8, v9, v10, none] ∧ Same HG Hx) ⟨_, _, _, rfl, Same.refl _⟩ (fun jj σ Hx _ h => by obtain ⟨_, _, _, _, h⟩ := h; exact same_tup h hT) ?_ ?_
        · rintro jj x σ Hx HH hjj ⟨v8, v9, v10, rfl, sx⟩ ⟨rfl, gx⟩
          obtain ⟨ex, dx, bx⟩ := things x (List.mem_of_getElem? gx)
          have dx := dp_same sx dx
          have fx : fineAll.fine ex ∧ ex.depth ≤ 60 ∧ costAll.cost ex ≤ 16777216 := ⟨gd_fineW (by decide) _ bx.t.g, Nat.le_trans bx.t.d (by decide), Nat.le_trans bx.t.c (by decide)⟩
          simp only [gName, List.set]
          refine ⟨_, rfl, x, ex, rfl, dx, fx.1, fx.2.1, fx.2.2, _, rfl, x, ex, 1006, rfl, dx, bx.t.g, fun H6 s6 => ⟨_, _, rfl, ?_⟩⟩
          simp only [List.set]
          have dx := dp_same s6 dx
          have dF : Dp K H6 (.bl (deedD ex)) (.bool (deedD ex)) := .bl _
          refine ⟨_, rfl, _, .ty _, _, _, isBoolD _, rfl, .ty _, tyx_dp dF, kit_bool dF, _, rfl, iteF ?_⟩
          refine ⟨_, rfl, _, rfl, x, ex, 1006, rfl, dx, bx.t.g, fun H7 s7 => ⟨rfl, _, rfl, iteNS rfl ?_⟩⟩
          have dx := dp_same s7 dx
          refine ⟨_, rfl, x, ex, rfl, dx, fx.1, fx.2.1, fx.2.2, _, rfl, rfl, _, rfl, iteNS rfl ?_⟩
          exact ⟨_, _, _, rfl, sx.trans (s6.trans s7)⟩
        · rintro σ Hx ⟨v8, v9, v10, rfl, sx⟩
          exact ⟨_, _, _, _, _, _, _, rfl, B.same sx, sx _ _ hC⟩
      · rintro σ Hy ⟨v4, v5, v6, v7, v8, v9, v10, rfl, B, hC⟩
        exact ⟨_, _, _, _, _, _, _, _, _, rfl, hC⟩
    · rintro σ H2 ⟨v2, v3, v4, v5, v6, v7, v8, v9, v10, rfl, hC⟩
      simp only [List.set]
      refine ⟨Nat.zero_le _, fun p1 np1 => ?_⟩
      have su := same_upd (o := .tup []) np1
      have dp1 : Dp K (upd H2 p1 (.tup [])) (.ref p1) (.tuple []) := .tup (.inl (.inl upd_same)) .nil
      generalize upd H2 p1 (.tup []) = A1 at dp1 ⊢
      clear su np1
      refine ⟨Nat.zero_le _, fun p2 np2 => ?_⟩
      have su := same_upd (o := .lst []) np2
      have dp1 := dp_same su dp1
      have dp2 : Dp K (upd A1 p2 (.lst [])) (.ref p2) (.list []) := .lst (SqL.of upd_same) .nil
      generalize upd A1 p2 (.lst []) = A2 at dp1 dp2 ⊢
      clear su np2
      refine ⟨(by show 1 ≤ sizeLine; decide), fun p3 np3 => ?_⟩
      have su := same_upd (o := .tup [.str "fill"]) np3
      have dp1 := dp_same su dp1
      have dp2 := dp_same su dp2
      have dp3 : Dp K (upd A2 p3 (.tup [.str "fill"])) (.ref p3) (.tuple [.str "fill"]) := .tup (.inl (.inl upd_same)) (.cons (.str _) (.nil))
      generalize upd A2 p3 (.tup [.str "fill"]) = A3 at dp1 dp2 dp3 ⊢
      clear su np3
      refine ⟨(by show 2 ≤ sizeLine; decide), fun p4 np4 => ?_⟩
      have su := same_upd (o := .tup [.str "fill", .str "a"]) np4
      have dp1 := dp_same su dp1
      have dp2 := dp_same su dp2
      have dp3 := dp_same su dp3
      have dp4 : Dp K (upd A3 p4 (.tup [.str "fill", .str "a"])) (.ref p4) (.tuple [.str "fill", .str "a"]) := .tup (.inl (.inl upd_same)) (.cons (.str _) (.cons (.str _) (.nil)))
      generalize upd A3 p4 (.tup [.str "fill", .str "a"]) = A4 at dp1 dp2 dp3 dp4 ⊢
      clear su np4
      refine ⟨(by show 4 ≤ sizeLine; decide), fun p5 np5 => ?_⟩
      have su := same_upd (o := .tup [.str "fill", .str "a", .str "b", .str "c"]) np5
      have dp1 := dp_same su dp1
      have dp2 := dp_same su dp2
      have dp3 := dp_same su dp3
      have dp4 := dp_same su dp4
      have dp5 : Dp K (upd A4 p5 (.tup [.str "fill", .str "a", .str "b", .str "c"])) (.ref p5) (.tuple [.str "fill", .str "a", .str "b", .str "c"]) := .tup (.inl (.inl upd_same)) (.cons (.str _) (.cons (.str _) (.cons (.str _) (.cons (.str _) (.nil)))))
      generalize upd A4 p5 (.tup [.str "fill", .str "a", .str "b", .str "c"]) = A5 at dp1 dp2 dp3 dp4 dp5 ⊢
      clear su np5
      refine ⟨(by show 1 ≤ sizeLine; decide), fun p6 np6 => ?_⟩
      have su := same_upd (o := .tup [.str "fill"]) np6
      have dp1 := dp_same su dp1
      have dp2 := dp_same su dp2
      have dp3 := dp_same su dp3
      have dp4 := dp_same su dp4
      have dp5 := dp_same su dp5
      have dp6 : Dp K (upd A5 p6 (.tup [.str "fill"])) (.ref p6) (.tuple [.str "fill"]) := .tup (.inl (.inl upd_same)) (.cons (.str _) (.nil))
      generalize upd A5 p6 (.tup [.str "fill"]) = A6 at dp1 dp2 dp3 dp4 dp5 dp6 ⊢
      clear su np6
      refine ⟨(by show 3 ≤ sizeLine; decide), fun p7 np7 => ?_⟩
      have su := same_upd (o := .tup [.ref p6, .str "a", .str "b"]) np7
      have dp1 := dp_same su dp1
      have dp2 := dp_same su dp2
      have dp3 := dp_same su dp3
      have dp4 := dp_same su dp4
      have dp5 := dp_same su dp5
      have dp6 := dp_same su dp6
      have dp7 : Dp K (upd A6 p7 (.tup [.ref p6, .str "a", .str "b"])) (.ref p7) (.tuple [.tuple [.str "fill"], .str "a", .str "b"]) := .tup (.inl (.inl upd_same)) (.cons (dp6) (.cons (.str _) (.cons (.str _) (.nil))))
      generalize upd A6 p7 (.tup [.ref p6, .str "a", .str "b"]) = A7 at dp1 dp2 dp3 dp4 dp5 dp6 dp7 ⊢
      clear su np7
      refine ⟨(by show 9 ≤ sizeLine; decide), fun q1 nq1 => ?_⟩
      have su := same_upd (o := .lst [V.ref p1, .ref p2, .non, .bl true, .str "fill", .ref p3, .ref p4, .ref p5, .ref p7]) nq1
      have dp1 := dp_same su dp1
      have dp2 := dp_same su dp2
      have dp3 := dp_same su dp3
      have dp4 := dp_same su dp4
      have dp5 := dp_same su dp5
      have dp7 := dp_same su dp7
      have hq1 : upd A7 q1 (.lst [V.ref p1, .ref p2, .non, .bl true, .str "fill", .ref p3, .ref p4, .ref p5, .ref p7]) q1 = some (.lst [V.ref p1, .ref p2, .non, .bl true, .str "fill", .ref p3, .ref p4, .ref p5, .ref p7]) := upd_same
      have daq1 : DpAll K (upd A7 q1 (.lst [V.ref p1, .ref p2, .non, .bl true, .str "fill", .ref p3, .ref p4, .ref p5, .ref p7])) [V.ref p1, .ref p2, .non, .bl true, .str "fill", .ref p3, .ref p4, .ref p5, .ref p7] [PyData.tuple [], .list [], .none, .bool true, .str "fill", .tuple [.str "fill"], .tuple [.str "fill", .str "a"], .tuple [.str "fill", .str "a", .str "b", .str "c"], .tuple [.tuple [.str "fill"], .str "a", .str "b"]] := .cons (dp1) (.cons (dp2) (.cons (.non) (.cons (.bl _) (.cons (.str _) (.cons (dp3) (.cons (dp4) (.cons (dp5) (.cons (dp7) (.nil)))))))))
      generalize upd A7 q1 (.lst [V.ref p1, .ref p2, .non, .bl true, .str "fill", .ref p3, .ref p4, .ref p5, .ref p7]) = A8 at dp1 dp2 dp3 dp4 dp5 dp7 hq1 daq1 ⊢
      clear su nq1
      clear dp1 dp2 dp3 dp4 dp5 dp7
      simp only [gName, List.set]
      generalize [V.ref p1, .ref p2, .non, .bl true, .str "fill", .ref p3, .ref p4, .ref p5, .ref p7] = v1 at hq1 daq1
      refine ⟨_, rfl, ?_⟩
      refine ⟨(by show 3 ≤ sizeLine; decide), fun r1 nr1 => ?_⟩
      have su := same_upd (o := .tup [.str "wash", .str "a", .bl true]) nr1
      have daq1 := dpAll_same su daq1
      have hq1 := su _ _ hq1
      have dr1 : Dp K (upd A8 r1 (.tup [.str "wash", .str "a", .bl true])) (.ref r1) (.tuple [.str "wash", .str "a", .bool true]) := .tup (.inl (.inl upd_same)) (.cons (.str _) (.cons (.str _) (.cons (.bl _) (.nil))))
      generalize upd A8 r1 (.tup [.str "wash", .str "a", .bl true]) = A9 at daq1 hq1 dr1 ⊢
      clear su nr1
      refine ⟨(by show 3 ≤ sizeLine; decide), fun r2 nr2 => ?_⟩
      have su := same_upd (o := .tup [.str "wash", .str "a", .int (1000)]) nr2
      have daq1 := dpAll_same su daq1
      have dr1 := dp_same su dr1
      have hq1 := su _ _ hq1
      have dr2 : Dp K (upd A9 r2 (.tup [.str "wash", .str "a", .int (1000)])) (.ref r2) (.tuple [.str "wash", .str "a", .int (1000)]) := .tup (.inl (.inl upd_same)) (.cons (.str _) (.cons (.str _) (.cons (.int _) (.nil))))
      generalize upd A9 r2 (.tup [.str "wash", .str "a", .int (1000)]) = A10 at daq1 dr1 hq1 dr2 ⊢
      clear su nr2
      refine ⟨1, rfl, (by show 3 ≤ sizeLine; decide), fun r3 nr3 => ?_⟩
      have su := same_upd (o := .tup [.str "new", .str "a", .int (-1)]) nr3
      have daq1 := dpAll_same su daq1
      have dr1 := dp_same su dr1
      have dr2 := dp_same su dr2
      have hq1 := su _ _ hq1
      have dr3 : Dp K (upd A10 r3 (.tup [.str "new", .str "a", .int (-1)])) (.ref r3) (.tuple [.str "new", .str "a", .int (-1)]) := .tup (.inl (.inl upd_same)) (.cons (.str _) (.cons (.str _) (.cons (.int _) (.nil))))
      generalize upd A10 r3 (.tup [.str "new", .str "a", .int (-1)]) = A11 at daq1 dr1 dr2 hq1 dr3 ⊢
      clear su nr3
      refine ⟨(by show 5 ≤ sizeLine; decide), fun r4 nr4 => ?_⟩
      have su := same_upd (o := .tup [.str "gather", .str "a", .str "b", .str "c", .int (0)]) nr4
      have daq1 := dpAll_same su daq1
      have dr1 := dp_same su dr1
      have dr2 := dp_same su dr2
      have dr3 := dp_same su dr3
      have hq1 := su _ _ hq1
      have dr4 : Dp K (upd A11 r4 (.tup [.str "gather", .str "a", .str "b", .str "c", .int (0)])) (.ref r4) (.tuple [.str "gather", .str "a", .str "b", .str "c", .int (0)]) := .tup (.inl (.inl upd_same)) (.cons (.str _) (.cons (.str _) (.cons (.str _) (.cons (.str _) (.cons (.int _) (.nil))))))
      generalize upd A11 r4 (.tup [.str "gather", .str "a", .str "b", .str "c", .int (0)]) = A12 at daq1 dr1 dr2 dr3 hq1 dr4 ⊢
      clear su nr4
      refine ⟨(by show 4 ≤ sizeLine; decide), fun q2 nq2 => ?_⟩
      have su := same_upd (o := .lst [V.ref r1, .ref r2, .ref r3, .ref r4]) nq2
      have daq1 := dpAll_same su daq1
      have dr1 := dp_same su dr1
      have dr2 := dp_same su dr2
      have dr3 := dp_same su dr3
      have dr4 := dp_same su dr4
      have hq1 := su _ _ hq1
      have hq2 : upd A12 q2 (.lst [V.ref r1, .ref r2, .ref r3, .ref r4]) q2 = some (.lst [V.ref r1, .ref r2, .ref r3, .ref r4]) := upd_same
      have daq2 : DpAll K (upd A12 q2 (.lst [V.ref r1, .ref r2, .ref r3, .ref r4])) [V.ref r1, .ref r2, .ref r3, .ref r4] [PyData.tuple [.str "wash", .str "a", .bool true], .tuple [.str "wash", .str "a", .int (1000)], .tuple [.str "new", .str "a", .int (-1)], .tuple [.str "gather", .str "a", .str "b", .str "c", .int (0)]] := .cons (dr1) (.cons (dr2) (.cons (dr3) (.cons (dr4) (.nil))))
      generalize upd A12 q2 (.lst [V.ref r1, .ref r2, .ref r3, .ref r4]) = A13 at daq1 dr1 dr2 dr3 dr4 hq1 hq2 daq2 ⊢
      clear su nq2
      clear dr1 dr2 dr3 dr4
      skip
      refine ⟨q1, q2, _, _, rfl, rfl, hq1, hq2, (by rw [sizeLine_eq, dpAll_len daq1, dpAll_len daq2]; decide), fun q3 nq3 => ?_⟩
      have daq3 := dpAll_same (same_upd (o := .lst (v1 ++ [V.ref r1, .ref r2, .ref r3, .ref r4])) nq3) (dpAll_app' daq1 daq2)
      have hq3 : upd A13 q3 (.lst (v1 ++ [V.ref r1, .ref r2, .ref r3, .ref r4])) q3 = some (.lst (v1 ++ [V.ref r1, .ref r2, .ref r3, .ref r4])) := upd_same
      generalize upd A13 q3 (.lst (v1 ++ [V.ref r1, .ref r2, .ref r3, .ref r4])) = A14 at daq3 hq3 ⊢
      clear nq3 hq1 hq2 daq1 daq2
      simp only [gName, List.set]
      generalize v1 ++ [V.ref r1, .ref r2, .ref r3, .ref r4] = v3 at hq3 daq3
      refine ⟨_, rfl, ?_⟩
      refine ⟨(by show 5 ≤ sizeLine; decide), fun s1 ns1 => ?_⟩
      have su := same_upd (o := .tup [.str "gather", .str "a", .str "b", .str "c", .bl true]) ns1
      have daq3 := dpAll_same su daq3
      have hq3 := su _ _ hq3
      have ds1 : Dp K (upd A14 s1 (.tup [.str "gather", .str "a", .str "b", .str "c", .bl true])) (.ref s1) (.tuple [.str "gather", .str "a", .str "b", .str "c", .bool true]) := .tup (.inl (.inl upd_same)) (.cons (.str _) (.cons (.str _) (.cons (.str _) (.cons (.str _) (.cons (.bl _) (.nil))))))
      generalize upd A14 s1 (.tup [.str "gather", .str "a", .str "b", .str "c", .bl true]) = A15 at daq3 hq3 ds1 ⊢
      clear su ns1
      refine ⟨(by show 2 ≤ sizeLine; decide), fun s2 ns2 => ?_⟩
      have su := same_upd (o := .tup [.str "empty", .str ""]) ns2
      have daq3 := dpAll_same su daq3
      have ds1 := dp_same su ds1
      have hq3 := su _ _ hq3
      have ds2 : Dp K (upd A15 s2 (.tup [.str "empty", .str ""])) (.ref s2) (.tuple [.str "empty", .str ""]) := .tup (.inl (.inl upd_same)) (.cons (.str _) (.cons (.str _) (.nil)))
      generalize upd A15 s2 (.tup [.str "empty", .str ""]) = A16 at daq3 ds1 hq3 ds2 ⊢
      clear su ns2
      refine ⟨(by show 2 ≤ sizeLine; decide), fun s3 ns3 => ?_⟩
      have su := same_upd (o := .tup [.str "break", .str "abcdefghi"]) ns3
      have daq3 := dpAll_same su daq3
      have ds1 := dp_same su ds1
      have ds2 := dp_same su ds2
      have hq3 := su _ _ hq3
      have ds3 : Dp K (upd A16 s3 (.tup [.str "break", .str "abcdefghi"])) (.ref s3) (.tuple [.str "break", .str "abcdefghi"]) := .tup (.inl (.inl upd_same)) (.cons (.str _) (.cons (.str _) (.nil)))
      generalize upd A16 s3 (.tup [.str "break", .str "abcdefghi"]) = A17 at daq3 ds1 ds2 hq3 ds3 ⊢
      clear su ns3
      refine ⟨Nat.zero_le _, fun s4 ns4 => ?_⟩
      have su := same_upd (o := .lst []) ns4
      have daq3 := dpAll_same su daq3
      have ds1 := dp_same su ds1
      have ds2 := dp_same su ds2
      have ds3 := dp_same su ds3
      have hq3 := su _ _ hq3
      have ds4 : Dp K (upd A17 s4 (.lst [])) (.ref s4) (.list []) := .lst (SqL.of upd_same) .nil
      generalize upd A17 s4 (.lst []) = A18 at daq3 ds1 ds2 ds3 hq3 ds4 ⊢
      clear su ns4
      refine ⟨(by show 2 ≤ sizeLine; decide), fun s5 ns5 => ?_⟩
      have su := same_upd (o := .tup [.ref s4, .str "a"]) ns5
      have daq3 := dpAll_same su daq3
      have ds1 := dp_same su ds1
      have ds2 := dp_same su ds2
      have ds3 := dp_same su ds3
      have ds4 := dp_same su ds4
      have hq3 := su _ _ hq3
      have ds5 : Dp K (upd A18 s5 (.tup [.ref s4, .str "a"])) (.ref s5) (.tuple [.list [], .str "a"]) := .tup (.inl (.inl upd_same)) (.cons (ds4) (.cons (.str _) (.nil)))
      generalize upd A18 s5 (.tup [.ref s4, .str "a"]) = A19 at daq3 ds1 ds2 ds3 ds4 hq3 ds5 ⊢
      clear su ns5
      refine ⟨(by show 2 ≤ sizeLine; decide), fun s6 ns6 => ?_⟩
      have su := same_upd (o := .tup [.non, .str "a"]) ns6
      have daq3 := dpAll_same su daq3
      have ds1 := dp_same su ds1
      have ds2 := dp_same su ds2
      have ds3 := dp_same su ds3
      have ds4 := dp_same su ds4
      have ds5 := dp_same su ds5
      have hq3 := su _ _ hq3
      have ds6 : Dp K (upd A19 s6 (.tup [.non, .str "a"])) (.ref s6) (.tuple [.none, .str "a"]) := .tup (.inl (.inl upd_same)) (.cons (.non) (.cons (.str _) (.nil)))
      generalize upd A19 s6 (.tup [.non, .str "a"]) = A20 at daq3 ds1 ds2 ds3 ds4 ds5 hq3 ds6 ⊢
      clear su ns6
      refine ⟨(by show 5 ≤ sizeLine; decide), fun q4 nq4 => ?_⟩
      have su := same_upd (o := .lst [V.ref s1, .ref s2, .ref s3, .ref s5, .ref s6]) nq4
      have daq3 := dpAll_same su daq3
      have ds1 := dp_same su ds1
      have ds2 := dp_same su ds2
      have ds3 := dp_same su ds3
      have ds4 := dp_same su ds4
      have ds5 := dp_same su ds5
      have ds6 := dp_same su ds6
      have hq3 := su _ _ hq3
      have hq4 : upd A20 q4 (.lst [V.ref s1, .ref s2, .ref s3, .ref s5, .ref s6]) q4 = some (.lst [V.ref s1, .ref s2, .ref s3, .ref s5, .ref s6]) := upd_same
      have daq4 : DpAll K (upd A20 q4 (.lst [V.ref s1, .ref s2, .ref s3, .ref s5, .ref s6])) [V.ref s1, .ref s2, .ref s3, .ref s5, .ref s6] [PyData.tuple [.str "gather", .str "a", .str "b", .str "c", .bool true], .tuple [.str "empty", .str ""], .tuple [.str "break", .str "abcdefghi"], .tuple [.list [], .str "a"], .tuple [.none, .str "a"]] := .cons (ds1) (.cons (ds2) (.cons (ds3) (.cons (ds5) (.cons (ds6) (.nil)))))
      generalize upd A20 q4 (.lst [V.ref s1, .ref s2, .ref s3, .ref s5, .ref s6]) = A21 at daq3 ds1 ds2 ds3 ds4 ds5 ds6 hq3 hq4 daq4 ⊢
      clear su nq4
      clear ds1 ds2 ds3 ds4 ds5 ds6
      refine ⟨q3, q4, _, _, rfl, rfl, hq3, hq4, (by rw [sizeLine_eq, dpAll_len daq3, dpAll_len daq4]; decide), fun q5 nq5 => ?_⟩
      have daq5 := dpAll_same (same_upd (o := .lst (v3 ++ [V.ref s1, .ref s2, .ref s3, .ref s5, .ref s6])) nq5) (dpAll_app' daq3 daq4)
      have hq5 : upd A21 q5 (.lst (v3 ++ [V.ref s1, .ref s2, .ref s3, .ref s5, .ref s6])) q5 = some (.lst (v3 ++ [V.ref s1, .ref s2, .ref s3, .ref s5, .ref s6])) := upd_same
      generalize upd A21 q5 (.lst (v3 ++ [V.ref s1, .ref s2, .ref s3, .ref s5, .ref s6])) = A22 at daq5 hq5 ⊢
      clear nq5 hq3 hq4 daq3 daq4
      simp only [gName, List.set]
      generalize v3 ++ [V.ref s1, .ref s2, .ref s3, .ref s5, .ref s6] = v5 at hq5 daq5
      obtain ⟨fx, efx⟩ : ∃ fx : List PyData, fx = ([PyData.tuple [], .list [], .none, .bool true, .str "fill", .tuple [.str "fill"], .tuple [.str "fill", .str "a"], .tuple [.str "fill", .str "a", .str "b", .str "c"], .tuple [.tuple [.str "fill"], .str "a", .str "b"]] ++ [PyData.tuple [.str "wash", .str "a", .bool true], .tuple [.str "wash", .str "a", .int (1000)], .tuple [.str "new", .str "a", .int (-1)], .tuple [.str "gather", .str "a", .str "b", .str "c", .int (0)]] ++ [PyData.tuple [.str "gather", .str "a", .str "b", .str "c", .bool true], .tuple [.str "empty", .str ""], .tuple [.str "break", .str "abcdefghi"], .tuple [.list [], .str "a"], .tuple [.none, .str "a"]]) := ⟨_, rfl⟩
      have hf1 : (fx.all fun d => !deedD d) = true := by rw [efx]; decide +kernel
      have hf2 : gdAll 1000 fx := by rw [efx]; exact ⟨trivial, ⟨trivial, ⟨trivial, ⟨trivial, ⟨⟨by decide +kernel, codes_ofString _⟩, ⟨⟨⟨by decide +kernel, codes_ofString _⟩, trivial⟩, ⟨⟨⟨by decide +kernel, codes_ofString _⟩, ⟨⟨by decide +kernel, codes_ofString _⟩, trivial⟩⟩, ⟨⟨⟨by decide +kernel, codes_ofString _⟩, ⟨⟨by decide +kernel, codes_ofString _⟩, ⟨⟨by decide +kernel, codes_ofString _⟩, ⟨⟨by decide +kernel, codes_ofString _⟩, trivial⟩⟩⟩⟩, ⟨⟨⟨⟨by decide +kernel, codes_ofString _⟩, trivial⟩, ⟨⟨by decide +kernel, codes_ofString _⟩, ⟨⟨by decide +kernel, codes_ofString _⟩, trivial⟩⟩⟩, ⟨⟨⟨by decide +kernel, codes_ofString _⟩, ⟨⟨by decide +kernel, codes_ofString _⟩, ⟨trivial, trivial⟩⟩⟩, ⟨⟨⟨by decide +kernel, codes_ofString _⟩, ⟨⟨by decide +kernel, codes_ofString _⟩, ⟨(by show Int.natAbs _ ≤ 1000; decide), trivial⟩⟩⟩, ⟨⟨⟨by decide +kernel, codes_ofString _⟩, ⟨⟨by decide +kernel, codes_ofString _⟩, ⟨(by show Int.natAbs _ ≤ 1000; decide), trivial⟩⟩⟩, ⟨⟨⟨by decide +kernel, codes_ofString _⟩, ⟨⟨by decide +kernel, codes_ofString _⟩, ⟨⟨by decide +kernel, codes_ofString _⟩, ⟨⟨by decide +kernel, codes_ofString _⟩, ⟨(by show Int.natAbs _ ≤ 1000; decide), trivial⟩⟩⟩⟩⟩, ⟨⟨⟨by decide +kernel, codes_ofString _⟩, ⟨⟨by decide +kernel, codes_ofString _⟩, ⟨⟨by decide +kernel, codes_ofString _⟩, ⟨⟨by decide +kernel, codes_ofString _⟩, ⟨trivial, trivial⟩⟩⟩⟩⟩, ⟨⟨⟨by decide +kernel, codes_ofString _⟩, ⟨⟨by decide +kernel, codes_ofString _⟩, trivial⟩⟩, ⟨⟨⟨by decide +kernel, codes_ofString _⟩, ⟨⟨by decide +kernel, codes_ofString _⟩, trivial⟩⟩, ⟨⟨trivial, ⟨⟨by decide +kernel, codes_ofString _⟩, trivial⟩⟩, ⟨⟨trivial, ⟨⟨by decide +kernel, codes_ofString _⟩, trivial⟩⟩, trivial⟩⟩⟩⟩⟩⟩⟩⟩⟩⟩⟩⟩⟩⟩⟩⟩⟩⟩
      have hfl : fx.length = 18 := by rw [efx]; rfl
      rw [← efx] at daq5
      clear efx
      have l5 := dpAll_len daq5
      refine ⟨_, rfl, q5, rfl, ⟨_, SqL.of hq5⟩, fun D nD => ?_⟩
      refine lc_it (walk_list (xs := v5)) (PvL A22 D fun i => ((fx.map fun d => !decide (deedD d = false)).take i).map V.bl) (pv_start nD rfl) (fun i H4 _ h => SqL.of (h.1 _ _ hq5)) ?_ ?_
      · rintro i y H4 H5 hi p ⟨rfl, gx⟩
        obtain ⟨e, ge, pe⟩ := dpAll_at daq5 gx
        refine ⟨rfl, tYes_at ?_⟩
        rw [if_pos rfl]
        refine ⟨_, rfl, y, e, 1000, rfl, dp_same p.1 pe, gdAll_iff.mp hf2 e (List.mem_of_getElem? ge), fun H6 s6 => ⟨_, false, rfl, rfl, ?_⟩⟩
        exact pv_put nD p s6 (take_map V.bl (by rw [List.getElem?_map, ge]; rfl)) (take_len_le (by rw [List.length_map]; omega))
      · intro H4 p
        obtain ⟨s4, hD⟩ := pv_end p (take_all (by rw [List.length_map, l5]; exact Nat.le_refl _))
        refine ⟨D, _, rfl, SqL.of hD, ?_⟩
        have ea : ((fx.map fun d => !decide (deedD d = false)).any id) = false := by
          rw [List.any_map, List.any_eq_false]
          intro d hd
          have := List.all_eq_true.mp hf1 d hd
          show ¬ (!decide (deedD d = false)) = true
          cases h : deedD d with
          | true => rw [h] at this; cases this
          | false => decide
        rw [ea]
        refine ⟨false, rfl, true, rfl, iteT ⟨(by show 2 ≤ sizeLine; decide), fun t nt => ?_⟩⟩
        have dT : Dp K (upd H4 t (.tup [.str "empty", .str "abcdefgh"])) (.ref t) (.tuple [.str "empty", .str "abcdefgh"]) := .tup (.inl (.inl upd_same)) (.cons (.str _) (.cons (.str _) .nil))
        have eT : deedD (.tuple [.str "empty", .str "abcdefgh"]) = true := by decide +kernel
        refine ⟨.ref t, _, 1000, rfl, dT, ⟨⟨by decide +kernel, codes_ofString _⟩, ⟨by decide +kernel, codes_ofString _⟩, trivial⟩, fun H6 s6 => ⟨_, true, rfl, rfl, ?_⟩⟩
        rw [eT]
        exact q _

end
end Pot

namespace Pot
open PySem PySem.Spec PyProof.Rows L2
set_option maxHeartbeats 4000000 in
theorem all_mk {l : PySem.W.OpenLaw} {w : World} {K : PySem.W.Frag} {h : Heap} {mg : Str → Option Value} {fa : Addr} (X : K.In h) (G : h.Ns mainGlobals mg) (hfa : mg "law" = some (.ref fa))
    {f1 : Addr} {od1 an1 : Option Addr} {sl1 : Array (Option Value)} {oc1 kV1 dc1 pm1 cd1 ct1 : Value}
    {f2 : Addr} {od2 an2 : Option Addr} {sl2 : Array (Option Value)} {oc2 kV2 dc2 pm2 cd2 ct2 : Value}
    {f3 : Addr} {od3 an3 : Option Addr} {sl3 : Array (Option Value)} {oc3 kV3 dc3 pm3 cd3 ct3 : Value}
    {f4 : Addr} {od4 an4 : Option Addr} {sl4 : Array (Option Value)} {oc4 kV4 dc4 pm4 cd4 ct4 : Value}
    {f5 : Addr} {od5 an5 : Option Addr} {sl5 : Array (Option Value)} {oc5 kV5 dc5 pm5 cd5 ct5 : Value}
    {f6 : Addr} {od6 an6 : Option Addr} {sl6 : Array (Option Value)} {oc6 kV6 dc6 pm6 cd6 ct6 : Value}
    {f7 : Addr} {od7 an7 : Option Addr} {sl7 : Array (Option Value)} {oc7 kV7 dc7 pm7 cd7 ct7 : Value}
    {f8 : Addr} {od8 an8 : Option Addr} {sl8 : Array (Option Value)} {oc8 kV8 dc8 pm8 cd8 ct8 : Value}
    {f9 : Addr} {od9 an9 : Option Addr} {sl9 : Array (Option Value)} {oc9 kV9 dc9 pm9 cd9 ct9 : Value}
    {f10 : Addr} {od10 an10 : Option Addr} {sl10 : Array (Option Value)} {oc10 kV10 dc10 pm10 cd10 ct10 : Value}
    {f11 : Addr} {od11 an11 : Option Addr} {sl11 : Array (Option Value)} {oc11 kV11 dc11 pm11 cd11 ct11 : Value}
    {f12 : Addr} {od12 an12 : Option Addr} {sl12 : Array (Option Value)} {oc12 kV12 dc12 pm12 cd12 ct12 : Value}
    {f13 : Addr} {od13 an13 : Option Addr} {sl13 : Array (Option Value)} {oc13 kV13 dc13 pm13 cd13 ct13 : Value}
    {f14 : Addr} {od14 an14 : Option Addr} {sl14 : Array (Option Value)} {oc14 kV14 dc14 pm14 cd14 ct14 : Value}
    {f15 : Addr} {od15 an15 : Option Addr} {sl15 : Array (Option Value)} {oc15 kV15 dc15 pm15 cd15 ct15 : Value}
    {f16 : Addr} {od16 an16 : Option Addr} {sl16 : Array (Option Value)} {oc16 kV16 dc16 pm16 cd16 ct16 : Value}
    {f17 : Addr} {od17 an17 : Option Addr} {sl17 : Array (Option Value)} {oc17 kV17 dc17 pm17 cd17 ct17 : Value}
    {tc1 : Tok}
    {DB : Addr} {nDB : Nat} {tB0 : Tok} {pB0 : Addr} {oB0 : Option Addr} {qB0 : Array (Option Value)} {cB0 : Nat} {uB0_0 : Tok} {uB0_1 : Tok} {tB1 : Tok} {pB1 : Addr} {oB1 : Option Addr} {qB1 : Array (Option Value)} {cB1 : Nat} {uB1_0 : Tok} {uB1_1 : Tok} {tB2 : Tok} {pB2 : Addr} {oB2 : Option Addr} {qB2 : Array (Option Value)} {cB2 : Nat} {uB2_0 : Tok} {uB2_1 : Tok} {tB3 : Tok} {pB3 : Addr} {oB3 : Option Addr} {qB3 : Array (Option Value)} {cB3 : Nat} {uB3_0 : Tok} {uB3_1 : Tok}
    {DP : Addr} {nDP : Nat} {tP0 : Tok} {pP0 : Addr} {oP0 : Option Addr} {qP0 : Array (Option Value)} {cP0 : Nat} {uP0_0 : Tok} {uP0_1 : Tok} {tP1 : Tok} {pP1 : Addr} {oP1 : Option Addr} {qP1 : Array (Option Value)} {cP1 : Nat} {uP1_0 : Tok} {uP1_1 : Tok} {tP2 : Tok} {pP2 : Addr} {oP2 : Option Addr} {qP2 : Array (Option Value)} {cP2 : Nat} {uP2_0 : Tok} {tP3 : Tok} {pP3 : Addr} {oP3 : Option Addr} {qP3 : Array (Option Value)} {cP3 : Nat} {uP3_0 : Tok} {uP3_1 : Tok} {uP3_2 : Tok} {uP3_3 : Tok} {tP4 : Tok} {pP4 : Addr} {oP4 : Option Addr} {qP4 : Array (Option Value)} {cP4 : Nat} {uP4_0 : Tok} {tP5 : Tok} {pP5 : Addr} {oP5 : Option Addr} {qP5 : Array (Option Value)} {cP5 : Nat} {uP5_0 : Tok} {uP5_1 : Tok}
    (a1 : PySem.W.nsIn K mainGlobals "is_number" = some (some (.ref f1))) (l1 : K.lookup f1 = some ⟨oc1, od1, .func (PySem.W.fnOf "is_number" "is_number" (defArgs s_is_number) (defBody s_is_number) (defScope s_is_number) .none kV1 dc1 pm1 an1 cd1 ct1), sl1⟩) (c1 : PySem.W.codeIn K cd1 "is_number" = true) (k1 : PySem.W.keepIn K (.ref f1) = true)
    (a2 : PySem.W.nsIn K mainGlobals "is_name" = some (some (.ref f2))) (l2 : K.lookup f2 = some ⟨oc2, od2, .func (PySem.W.fnOf "is_name" "is_name" (defArgs s_is_name) (defBody s_is_name) (defScope s_is_name) .none kV2 dc2 pm2 an2 cd2 ct2), sl2⟩) (c2 : PySem.W.codeIn K cd2 "is_name" = true) (k2 : PySem.W.keepIn K (.ref f2) = true)
    (a3 : PySem.W.nsIn K mainGlobals "are_parts" = some (some (.ref f3))) (l3 : K.lookup f3 = some ⟨oc3, od3, .func (PySem.W.fnOf "are_parts" "are_parts" (defArgs s_are_parts) (defBody s_are_parts) (defScope s_are_parts) .none kV3 dc3 pm3 an3 cd3 ct3), sl3⟩) (c3 : PySem.W.codeIn K cd3 "are_parts" = true) (k3 : PySem.W.keepIn K (.ref f3) = true)
    (a4 : PySem.W.nsIn K mainGlobals "is_part" = some (some (.ref f4))) (l4 : K.lookup f4 = some ⟨oc4, od4, .func (PySem.W.fnOf "is_part" "is_part" (defArgs s_is_part) (defBody s_is_part) (defScope s_is_part) .none kV4 dc4 pm4 an4 cd4 ct4), sl4⟩) (c4 : PySem.W.codeIn K cd4 "is_part" = true) (k4 : PySem.W.keepIn K (.ref f4) = true)
    (a5 : PySem.W.nsIn K mainGlobals "is_deed" = some (some (.ref f5))) (l5 : K.lookup f5 = some ⟨oc5, od5, .func (PySem.W.fnOf "is_deed" "is_deed" (defArgs s_is_deed) (defBody s_is_deed) (defScope s_is_deed) .none kV5 dc5 pm5 an5 cd5 ct5), sl5⟩) (c5 : PySem.W.codeIn K cd5 "is_deed" = true) (k5 : PySem.W.keepIn K (.ref f5) = true)
    (a6 : PySem.W.nsIn K mainGlobals "_law_folded" = some (some (.ref f6))) (l6 : K.lookup f6 = some ⟨oc6, od6, .func (PySem.W.fnOf "_law_folded" "_law_folded" (defArgs s__law_folded) (defBody s__law_folded) (defScope s__law_folded) .none kV6 dc6 pm6 an6 cd6 ct6), sl6⟩) (c6 : PySem.W.codeIn K cd6 "_law_folded" = true) (k6 : PySem.W.keepIn K (.ref f6) = true)
    (a7 : PySem.W.nsIn K mainGlobals "_law_draws" = some (some (.ref f7))) (l7 : K.lookup f7 = some ⟨oc7, od7, .func (PySem.W.fnOf "_law_draws" "_law_draws" (defArgs s__law_draws) (defBody s__law_draws) (defScope s__law_draws) .none kV7 dc7 pm7 an7 cd7 ct7), sl7⟩) (c7 : PySem.W.codeIn K cd7 "_law_draws" = true) (k7 : PySem.W.keepIn K (.ref f7) = true)
    (a8 : PySem.W.nsIn K mainGlobals "_law_take" = some (some (.ref f8))) (l8 : K.lookup f8 = some ⟨oc8, od8, .func (PySem.W.fnOf "_law_take" "_law_take" (defArgs s__law_take) (defBody s__law_take) (defScope s__law_take) .none kV8 dc8 pm8 an8 cd8 ct8), sl8⟩) (c8 : PySem.W.codeIn K cd8 "_law_take" = true) (k8 : PySem.W.keepIn K (.ref f8) = true)
    (a9 : PySem.W.nsIn K mainGlobals "_law_pick" = some (some (.ref f9))) (l9 : K.lookup f9 = some ⟨oc9, od9, .func (PySem.W.fnOf "_law_pick" "_law_pick" (defArgs s__law_pick) (defBody s__law_pick) (defScope s__law_pick) .none kV9 dc9 pm9 an9 cd9 ct9), sl9⟩) (c9 : PySem.W.codeIn K cd9 "_law_pick" = true) (k9 : PySem.W.keepIn K (.ref f9) = true)
    (a10 : PySem.W.nsIn K mainGlobals "_law_some_names" = some (some (.ref f10))) (l10 : K.lookup f10 = some ⟨oc10, od10, .func (PySem.W.fnOf "_law_some_names" "_law_some_names" (defArgs s__law_some_names) (defBody s__law_some_names) (defScope s__law_some_names) .none kV10 dc10 pm10 an10 cd10 ct10), sl10⟩) (c10 : PySem.W.codeIn K cd10 "_law_some_names" = true) (k10 : PySem.W.keepIn K (.ref f10) = true)
    (a11 : PySem.W.nsIn K mainGlobals "_law_any_deed" = some (some (.ref f11))) (l11 : K.lookup f11 = some ⟨oc11, od11, .func (PySem.W.fnOf "_law_any_deed" "_law_any_deed" (defArgs s__law_any_deed) (defBody s__law_any_deed) (defScope s__law_any_deed) .none kV11 dc11 pm11 an11 cd11 ct11), sl11⟩) (c11 : PySem.W.codeIn K cd11 "_law_any_deed" = true) (k11 : PySem.W.keepIn K (.ref f11) = true)
    (a12 : PySem.W.nsIn K mainGlobals "_law_is_name" = some (some (.ref f12))) (l12 : K.lookup f12 = some ⟨oc12, od12, .func (PySem.W.fnOf "_law_is_name" "_law_is_name" (defArgs s__law_is_name) (defBody s__law_is_name) (defScope s__law_is_name) .none kV12 dc12 pm12 an12 cd12 ct12), sl12⟩) (c12 : PySem.W.codeIn K cd12 "_law_is_name" = true) (k12 : PySem.W.keepIn K (.ref f12) = true)
    (a13 : PySem.W.nsIn K mainGlobals "_law_is_count" = some (some (.ref f13))) (l13 : K.lookup f13 = some ⟨oc13, od13, .func (PySem.W.fnOf "_law_is_count" "_law_is_count" (defArgs s__law_is_count) (defBody s__law_is_count) (defScope s__law_is_count) .none kV13 dc13 pm13 an13 cd13 ct13), sl13⟩) (c13 : PySem.W.codeIn K cd13 "_law_is_count" = true) (k13 : PySem.W.keepIn K (.ref f13) = true)
    (a14 : PySem.W.nsIn K mainGlobals "_law_is_one" = some (some (.ref f14))) (l14 : K.lookup f14 = some ⟨oc14, od14, .func (PySem.W.fnOf "_law_is_one" "_law_is_one" (defArgs s__law_is_one) (defBody s__law_is_one) (defScope s__law_is_one) .none kV14 dc14 pm14 an14 cd14 ct14), sl14⟩) (c14 : PySem.W.codeIn K cd14 "_law_is_one" = true) (k14 : PySem.W.keepIn K (.ref f14) = true)
    (a15 : PySem.W.nsIn K mainGlobals "_law_odd" = some (some (.ref f15))) (l15 : K.lookup f15 = some ⟨oc15, od15, .func (PySem.W.fnOf "_law_odd" "_law_odd" (defArgs s__law_odd) (defBody s__law_odd) (defScope s__law_odd) .none kV15 dc15 pm15 an15 cd15 ct15), sl15⟩) (c15 : PySem.W.codeIn K cd15 "_law_odd" = true) (k15 : PySem.W.keepIn K (.ref f15) = true)
    (a16 : PySem.W.nsIn K mainGlobals "_law_bent" = some (some (.ref f16))) (l16 : K.lookup f16 = some ⟨oc16, od16, .func (PySem.W.fnOf "_law_bent" "_law_bent" (defArgs s__law_bent) (defBody s__law_bent) (defScope s__law_bent) .none kV16 dc16 pm16 an16 cd16 ct16), sl16⟩) (c16 : PySem.W.codeIn K cd16 "_law_bent" = true) (k16 : PySem.W.keepIn K (.ref f16) = true)
    (a17 : PySem.W.nsIn K mainGlobals "law" = some (some (.ref f17))) (l17 : K.lookup f17 = some ⟨oc17, od17, .func (PySem.W.fnOf "law" "law" (defArgs s_law) (defBody s_law) (defScope s_law) .none kV17 dc17 pm17 an17 cd17 ct17), sl17⟩) (c17 : PySem.W.codeIn K cd17 "law" = true) (k17 : PySem.W.keepIn K (.ref f17) = true)
    (z1 : PySem.W.nsIn K mainGlobals "len" = some none)
    (z2 : PySem.W.nsIn K mainGlobals "divmod" = some none)
    (z3 : PySem.W.nsIn K mainGlobals "range" = some none)
    (z4 : PySem.W.nsIn K mainGlobals "sum" = some none)
    (z5 : PySem.W.nsIn K mainGlobals "all" = some none)
    (z6 : PySem.W.nsIn K mainGlobals "any" = some none)
    (z7 : PySem.W.nsIn K mainGlobals "isinstance" = some none)
    (z8 : PySem.W.nsIn K mainGlobals "str" = some none)
    (z9 : PySem.W.nsIn K mainGlobals "int" = some none)
    (z10 : PySem.W.nsIn K mainGlobals "list" = some none)
    (z11 : PySem.W.nsIn K mainGlobals "tuple" = some none)
    (z12 : PySem.W.nsIn K mainGlobals "bool" = some none)
    (z13 : PySem.W.nsIn K mainGlobals "zip" = some none)
    (z14 : PySem.W.nsIn K mainGlobals "set" = some none)
    (z15 : PySem.W.nsIn K mainGlobals "sorted" = some none)
    (z16 : PySem.W.nsIn K mainGlobals "enumerate" = some none)
    (z17 : PySem.W.nsIn K mainGlobals "repr" = some none)
    (z18 : PySem.W.nsIn K mainGlobals "min" = some none)
    (z19 : PySem.W.nsIn K mainGlobals "max" = some none)
    (z20 : PySem.W.nsIn K mainGlobals "abs" = some none)
    (y1 : PySem.W.nsIn K mainGlobals "LETTERS" = some (some (.str "abcdefghijklmnopqrstuvwxyz" tc1)))
    (yDB : PySem.W.nsIn K mainGlobals "BOUNDS" = some (some (.ref DB)))
    (lDB : K.lookup DB = some ⟨.type "dict", none, .dict (([("hours", tB0, pB0), ("gathers", tB1, pB1), ("hour", tB2, pB2), ("number", tB3, pB3)] : List (Str × Tok × Addr)).map (entE w)).toArray nDB, #[]⟩)
    (sDB : (DB == sysModules) = false)
    (mB0 : K.lookup pB0 = some ⟨.type "tuple", oB0, .seq #[.int 0 uB0_0, .int 999 uB0_1] cB0, qB0⟩)
    (mB1 : K.lookup pB1 = some ⟨.type "tuple", oB1, .seq #[.int 1 uB1_0, .int 999 uB1_1] cB1, qB1⟩)
    (mB2 : K.lookup pB2 = some ⟨.type "tuple", oB2, .seq #[.int 0 uB2_0, .int 9999 uB2_1] cB2, qB2⟩)
    (mB3 : K.lookup pB3 = some ⟨.type "tuple", oB3, .seq #[.int 0 uB3_0, .int 1000000000 uB3_1] cB3, qB3⟩)
    (yDP : PySem.W.nsIn K mainGlobals "PARTS" = some (some (.ref DP)))
    (lDP : K.lookup DP = some ⟨.type "dict", none, .dict (([("fill", tP0, pP0), ("wash", tP1, pP1), ("empty", tP2, pP2), ("gather", tP3, pP3), ("break", tP4, pP4), ("new", tP5, pP5)] : List (Str × Tok × Addr)).map (entE w)).toArray nDP, #[]⟩)
    (sDP : (DP == sysModules) = false)
    (mP0 : K.lookup pP0 = some ⟨.type "tuple", oP0, .seq #[.str "name" uP0_0, .str "name" uP0_1] cP0, qP0⟩)
    (mP1 : K.lookup pP1 = some ⟨.type "tuple", oP1, .seq #[.str "name" uP1_0, .str "hours" uP1_1] cP1, qP1⟩)
    (mP2 : K.lookup pP2 = some ⟨.type "tuple", oP2, .seq #[.str "name" uP2_0] cP2, qP2⟩)
    (mP3 : K.lookup pP3 = some ⟨.type "tuple", oP3, .seq #[.str "name" uP3_0, .str "name" uP3_1, .str "name" uP3_2, .str "gathers" uP3_3] cP3, qP3⟩)
    (mP4 : K.lookup pP4 = some ⟨.type "tuple", oP4, .seq #[.str "name" uP4_0] cP4, qP4⟩)
    (mP5 : K.lookup pP5 = some ⟨.type "tuple", oP5, .seq #[.str "name" uP5_0, .str "hours" uP5_1] cP5, qP5⟩)
    : ∃ fd : FuncData, (∀ (s : Shared) (v : Value), BindsTo s fd ⟨[v], []⟩ [("_law_script", v)]) ∧ ∀ base : Heap, K.In base → base.Ns mainGlobals mg → FnG l.prog w K mg base 9 fa fd ["_law_script"] (spLaw K) := by
  have e := hfa.symm.trans (PySem.W.mg_of X G a17)
  cases e
  have T : Txt mg := ⟨PySem.W.mg_none_of X G z1, PySem.W.mg_none_of X G z2, PySem.W.mg_none_of X G z3, PySem.W.mg_none_of X G z4, PySem.W.mg_none_of X G z5, PySem.W.mg_none_of X G z6, PySem.W.mg_none_of X G z7, PySem.W.mg_none_of X G z8, PySem.W.mg_none_of X G z9, PySem.W.mg_none_of X G z10, PySem.W.mg_none_of X G z11, PySem.W.mg_none_of X G z12, PySem.W.mg_none_of X G z13, PySem.W.mg_none_of X G z14, PySem.W.mg_none_of X G z15, PySem.W.mg_none_of X G z16, PySem.W.mg_none_of X G z17, PySem.W.mg_none_of X G z18, PySem.W.mg_none_of X G z19, PySem.W.mg_none_of X G z20⟩
  have F1 := fun_mk (st := s_is_number) l1 c1 k1
  have b1 := F1.binds (ps := ["thing", "low", "high"]) fun _ _ _ _ _ _ us hl => match us, hl with | [_, _, _], _ => rfl
  have g1 := PySem.W.mg_of X G a1
  have F2 := fun_mk (st := s_is_name) l2 c2 k2
  have b2 := F2.binds (ps := ["thing"]) fun _ _ _ _ _ _ us hl => match us, hl with | [_], _ => rfl
  have g2 := PySem.W.mg_of X G a2
  have F3 := fun_mk (st := s_are_parts) l3 c3 k3
  have b3 := F3.binds (ps := ["things", "sorts"]) fun _ _ _ _ _ _ us hl => match us, hl with | [_, _], _ => rfl
  have g3 := PySem.W.mg_of X G a3
  have F4 := fun_mk (st := s_is_part) l4 c4 k4
  have b4 := F4.binds (ps := ["thing", "sort"]) fun _ _ _ _ _ _ us hl => match us, hl with | [_, _], _ => rfl
  have g4 := PySem.W.mg_of X G a4
  have F5 := fun_mk (st := s_is_deed) l5 c5 k5
  have b5 := F5.binds (ps := ["thing"]) fun _ _ _ _ _ _ us hl => match us, hl with | [_], _ => rfl
  have g5 := PySem.W.mg_of X G a5
  have F6 := fun_mk (st := s__law_folded) l6 c6 k6
  have b6 := F6.binds (ps := ["_law_script", "_law_many"]) fun _ _ _ _ _ _ us hl => match us, hl with | [_, _], _ => rfl
  have g6 := PySem.W.mg_of X G a6
  have F7 := fun_mk (st := s__law_draws) l7 c7 k7
  have b7 := F7.binds (ps := ["_law_script", "_law_k"]) fun _ _ _ _ _ _ us hl => match us, hl with | [_, _], _ => rfl
  have g7 := PySem.W.mg_of X G a7
  have F8 := fun_mk (st := s__law_take) l8 c8 k8
  have b8 := F8.binds (ps := ["_law_box", "_law_many"]) fun _ _ _ _ _ _ us hl => match us, hl with | [_, _], _ => rfl
  have g8 := PySem.W.mg_of X G a8
  have F9 := fun_mk (st := s__law_pick) l9 c9 k9
  have b9 := F9.binds (ps := ["_law_box", "_law_some"]) fun _ _ _ _ _ _ us hl => match us, hl with | [_, _], _ => rfl
  have g9 := PySem.W.mg_of X G a9
  have F10 := fun_mk (st := s__law_some_names) l10 c10 k10
  have b10 := F10.binds (ps := ["_law_box", "_law_many"]) fun _ _ _ _ _ _ us hl => match us, hl with | [_, _], _ => rfl
  have g10 := PySem.W.mg_of X G a10
  have F11 := fun_mk (st := s__law_any_deed) l11 c11 k11
  have b11 := F11.binds (ps := ["_law_box"]) fun _ _ _ _ _ _ us hl => match us, hl with | [_], _ => rfl
  have g11 := PySem.W.mg_of X G a11
  have F12 := fun_mk (st := s__law_is_name) l12 c12 k12
  have b12 := F12.binds (ps := ["_law_thing"]) fun _ _ _ _ _ _ us hl => match us, hl with | [_], _ => rfl
  have g12 := PySem.W.mg_of X G a12
  have F13 := fun_mk (st := s__law_is_count) l13 c13 k13
  have b13 := F13.binds (ps := ["_law_thing", "_law_least"]) fun _ _ _ _ _ _ us hl => match us, hl with | [_, _], _ => rfl
  have g13 := PySem.W.mg_of X G a13
  have F14 := fun_mk (st := s__law_is_one) l14 c14 k14
  have b14 := F14.binds (ps := ["_law_thing"]) fun _ _ _ _ _ _ us hl => match us, hl with | [_], _ => rfl
  have g14 := PySem.W.mg_of X G a14
  have F15 := fun_mk (st := s__law_odd) l15 c15 k15
  have b15 := F15.binds (ps := ["_law_box", "_law_thing"]) fun _ _ _ _ _ _ us hl => match us, hl with | [_, _], _ => rfl
  have g15 := PySem.W.mg_of X G a15
  have F16 := fun_mk (st := s__law_bent) l16 c16 k16
  have b16 := F16.binds (ps := ["_law_box", "_law_thing"]) fun _ _ _ _ _ _ us hl => match us, hl with | [_, _], _ => rfl
  have g16 := PySem.W.mg_of X G a16
  have F17 := fun_mk (st := s_law) l17 c17 k17
  refine ⟨PySem.W.fnOf "law" "law" (defArgs s_law) (defBody s_law) (defScope s_law) .none kV17 dc17 pm17 an17 cd17 ct17, fun s v => .of_eq rfl, fun base _ _ => ?_⟩
  have L_Prt : Prt K w mg := prt_of (PySem.W.mg_of X G yDP) lDP sDP (fun H => .inr ⟨_, _, _, mP0, rfl, rfl, by show 2 ≤ sizeLine; decide, .cons ⟨_, rfl⟩ (.cons ⟨_, rfl⟩ (.nil))⟩) (fun H => .inr ⟨_, _, _, mP1, rfl, rfl, by show 2 ≤ sizeLine; decide, .cons ⟨_, rfl⟩ (.cons ⟨_, rfl⟩ (.nil))⟩) (fun H => .inr ⟨_, _, _, mP2, rfl, rfl, by show 1 ≤ sizeLine; decide, .cons ⟨_, rfl⟩ (.nil)⟩) (fun H => .inr ⟨_, _, _, mP3, rfl, rfl, by show 4 ≤ sizeLine; decide, .cons ⟨_, rfl⟩ (.cons ⟨_, rfl⟩ (.cons ⟨_, rfl⟩ (.cons ⟨_, rfl⟩ (.nil))))⟩) (fun H => .inr ⟨_, _, _, mP4, rfl, rfl, by show 1 ≤ sizeLine; decide, .cons ⟨_, rfl⟩ (.nil)⟩) (fun H => .inr ⟨_, _, _, mP5, rfl, rfl, by show 2 ≤ sizeLine; decide, .cons ⟨_, rfl⟩ (.cons ⟨_, rfl⟩ (.nil))⟩)
  have L_Let : Let mg := ⟨_, PySem.W.mg_of X G y1⟩
  have L_Bnd : Bnd K w mg := bnd_of (PySem.W.mg_of X G yDB) lDB sDB (fun H => .inr ⟨_, _, _, mB0, rfl, rfl, by show 2 ≤ sizeLine; decide, .cons ⟨_, rfl⟩ (.cons ⟨_, rfl⟩ (.nil))⟩) (fun H => .inr ⟨_, _, _, mB1, rfl, rfl, by show 2 ≤ sizeLine; decide, .cons ⟨_, rfl⟩ (.cons ⟨_, rfl⟩ (.nil))⟩) (fun H => .inr ⟨_, _, _, mB2, rfl, rfl, by show 2 ≤ sizeLine; decide, .cons ⟨_, rfl⟩ (.cons ⟨_, rfl⟩ (.nil))⟩) (fun H => .inr ⟨_, _, _, mB3, rfl, rfl, by show 2 ≤ sizeLine; decide, .cons ⟨_, rfl⟩ (.cons ⟨_, rfl⟩ (.nil))⟩)
  have c__law_folded : Cl l.prog w K mg base 1 "_law_folded" ((spFolded K)) := ⟨_, _, _, ok_folded F6 T, g6, F6.kp, b6⟩
  have c__law_draws : Cl l.prog w K mg base 1 "_law_draws" ((spDraws K)) := ⟨_, _, _, ok_draws F7 T, g7, F7.kp, b7⟩
  have c__law_take : Cl l.prog w K mg base 1 "_law_take" (spTake) := ⟨_, _, _, ok_take F8 T, g8, F8.kp, b8⟩
  have c__law_pick : Cl l.prog w K mg base 2 "_law_pick" (spPick) := ⟨_, _, _, ok_pick F9 T c__law_take, g9, F9.kp, b9⟩
  have c__law_some_names : Cl l.prog w K mg base 3 "_law_some_names" (spSome) := ⟨_, _, _, ok_somen F10 T c__law_take c__law_pick, g10, F10.kp, b10⟩
  have c__law_any_deed : Cl l.prog w K mg base 4 "_law_any_deed" ((spAny K)) := ⟨_, _, _, ok_any F11 T c__law_take c__law_some_names, g11, F11.kp, b11⟩
  have c_is_number : Cl l.prog w K mg base 1 "is_number" ((spNumD K)) := ⟨_, _, _, ok_numD F1 T, g1, F1.kp, b1⟩
  have c_is_name : Cl l.prog w K mg base 1 "is_name" ((spName K)) := ⟨_, _, _, ok_name F2 T L_Let, g2, F2.kp, b2⟩
  have c_is_part : Cl l.prog w K mg base 2 "is_part" ((spPart K)) := ⟨_, _, _, ok_part F4 T L_Bnd c_is_number c_is_name, g4, F4.kp, b4⟩
  have c_are_parts : Cl l.prog w K mg base 3 "are_parts" ((spParts K)) := ⟨_, _, _, ok_parts F3 T c_is_part, g3, F3.kp, b3⟩
  have c_is_deed : Cl l.prog w K mg base 4 "is_deed" ((spDeed K)) := ⟨_, _, _, ok_deed F5 T L_Prt c_are_parts, g5, F5.kp, b5⟩
  have c__law_is_name : Cl l.prog w K mg base 1 "_law_is_name" ((spName K)) := ⟨_, _, _, ok_lname F12 T, g12, F12.kp, b12⟩
  have c__law_is_count : Cl l.prog w K mg base 1 "_law_is_count" ((spCnt K)) := ⟨_, _, _, ok_cnt F13 T, g13, F13.kp, b13⟩
  have c__law_is_one : Cl l.prog w K mg base 2 "_law_is_one" ((spDeed K)) := ⟨_, _, _, ok_one F14 T c__law_is_name c__law_is_count, g14, F14.kp, b14⟩
  have c__law_odd : Cl l.prog w K mg base 3 "_law_odd" ((spOddK K)) := ⟨_, _, _, ok_odd F15 T c__law_take c__law_pick, g15, F15.kp, b15⟩
  have c__law_bent : Cl l.prog w K mg base 8 "_law_bent" (spBentK K 4) := ⟨_, _, _, ok_bent (k0 := 0) F16 T b16 g16 c__law_take c__law_pick c__law_odd 4, g16, F16.kp, b16⟩
  exact ok_law F17 T c__law_folded c__law_draws c__law_any_deed c_is_deed c__law_is_one c__law_take c__law_bent
end Pot
open PySem PySem.W PyProof.Rows
set_option maxRecDepth 100000 in
set_option maxHeartbeats 0 in
theorem PySem.Challenge.cw_potround_k54_what_deeds_are_holds : PySem.Challenge.rw_potround_k54_what_deeds_are.Holds := by
  w_on; o_law; k_head; (case hw => w_witness2)
  k_fill
  refine Pot.walkG (l := PySem.Challenge.rw_potround_k54_what_deeds_are) (n := 63) (k := 9) (x := "_law_script") (sp := fun w => Pot.spLaw _) rfl (by decide) rfl ⟨rfl, by decide, by decide⟩ (fun w h Y => PySem.W.kIn_of Y) ?F (fun _ _ a ns hl _ hS => ⟨a, ns, rfl, hS, hl, fun _ => rfl⟩)
  case F =>
    intro w mg fa h KX G hmg
    refine' Pot.all_mk KX G hmg ?a1 ?l1 ?c1 ?k1 ?a2 ?l2 ?c2 ?k2 ?a3 ?l3 ?c3 ?k3 ?a4 ?l4 ?c4 ?k4 ?a5 ?l5 ?c5 ?k5 ?a6 ?l6 ?c6 ?k6 ?a7 ?l7 ?c7 ?k7 ?a8 ?l8 ?c8 ?k8 ?a9 ?l9 ?c9 ?k9 ?a10 ?l10 ?c10 ?k10 ?a11 ?l11 ?c11 ?k11 ?a12 ?l12 ?c12 ?k12 ?a13 ?l13 ?c13 ?k13 ?a14 ?l14 ?c14 ?k14 ?a15 ?l15 ?c15 ?k15 ?a16 ?l16 ?c16 ?k16 ?a17 ?l17 ?c17 ?k17 ?z1 ?z2 ?z3 ?z4 ?z5 ?z6 ?z7 ?z8 ?z9 ?z10 ?z11 ?z12 ?z13 ?z14 ?z15 ?z16 ?z17 ?z18 ?z19 ?z20 ?y1 ?yDB ?lDB ?sDB ?mB0 ?mB1 ?mB2 ?mB3 ?yDP ?lDP ?sDP ?mP0 ?mP1 ?mP2 ?mP3 ?mP4 ?mP5
    (case a1 => k_is)
    (case l1 => k_is)
    (case c1 => k_is)
    (case k1 => k_is)
    (case a2 => k_is)
    (case l2 => k_is)
    (case c2 => k_is)
    (case k2 => k_is)
    (case a3 => k_is)
    (case l3 => k_is)
    (case c3 => k_is)
    (case k3 => k_is)
    (case a4 => k_is)
    (case l4 => k_is)
    (case c4 => k_is)
    (case k4 => k_is)
    (case a5 => k_is)
    (case l5 => k_is)
    (case c5 => k_is)
    (case k5 => k_is)
    (case a6 => k_is)
    (case l6 => k_is)
    (case c6 => k_is)
    (case k6 => k_is)
    (case a7 => k_is)
    (case l7 => k_is)
    (case c7 => k_is)
    (case k7 => k_is)
    (case a8 => k_is)
    (case l8 => k_is)
    (case c8 => k_is)
    (case k8 => k_is)
    (case a9 => k_is)
    (case l9 => k_is)
    (case c9 => k_is)
    (case k9 => k_is)
    (case a10 => k_is)
    (case l10 => k_is)
    (case c10 => k_is)
    (case k10 => k_is)
    (case a11 => k_is)
    (case l11 => k_is)
    (case c11 => k_is)
    (case k11 => k_is)
    (case a12 => k_is)
    (case l12 => k_is)
    (case c12 => k_is)
    (case k12 => k_is)
    (case a13 => k_is)
    (case l13 => k_is)
    (case c13 => k_is)
    (case k13 => k_is)
    (case a14 => k_is)
    (case l14 => k_is)
    (case c14 => k_is)
    (case k14 => k_is)
    (case a15 => k_is)
    (case l15 => k_is)
    (case c15 => k_is)
    (case k15 => k_is)
    (case a16 => k_is)
    (case l16 => k_is)
    (case c16 => k_is)
    (case k16 => k_is)
    (case a17 => k_is)
    (case l17 => k_is)
    (case c17 => k_is)
    (case k17 => k_is)
    (case z1 => k_is)
    (case z2 => k_is)
    (case z3 => k_is)
    (case z4 => k_is)
    (case z5 => k_is)
    (case z6 => k_is)
    (case z7 => k_is)
    (case z8 => k_is)
    (case z9 => k_is)
    (case z10 => k_is)
    (case z11 => k_is)
    (case z12 => k_is)
    (case z13 => k_is)
    (case z14 => k_is)
    (case z15 => k_is)
    (case z16 => k_is)
    (case z17 => k_is)
    (case z18 => k_is)
    (case z19 => k_is)
    (case z20 => k_is)
    (case y1 => k_is)
    (case yDB => k_is)
    (case lDB => k_is)
    (case sDB => first | k_is | rfl | decide)
    (case mB0 => k_is)
    (case mB1 => k_is)
    (case mB2 => k_is)
    (case mB3 => k_is)
    (case yDP => k_is)
    (case lDP => k_is)
    (case sDP => first | k_is | rfl | decide)
    (case mP0 => k_is)
    (case mP1 => k_is)
    (case mP2 => k_is)
    (case mP3 => k_is)
    (case mP4 => k_is)
    (case mP5 => k_is)
