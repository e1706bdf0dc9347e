import PyProof.Rows.All
import Wide.All
import OpenK.AllK
import Wide.FinOn
import PyProof.EqAt
import PyProof.EqKinds
import PyProof.TupleCall
import PyProof.ReprRoads
import HandS.Base
import HandS.Call
import HandS.List
import HandS.Comp
import HandS.Ends
import HandS.Words
import HandS.WordsList
import HandS.IsInst
import HandS.Style
import HandS.TupMul
import HandS.Wide
import HandS.Dict
import HandS.TupAny
import HandS.Exc
import HandS.ExcOwn
import HandS.Deep
import HandS.Text
import HandS.Iter
import HandS.Zip
import HandS.NoneIn
import HandS.SetFor
import HandS.SortInts
import HandS.Conv
import HandS.Small
import PyProof.ZipIter
import HandS.Zip0
import HandS.Star
import PySem.Challenge.RW_teesizes_k08_records_judged
set_option Elab.async false
set_option linter.all false
set_option maxRecDepth 100000
set_option maxHeartbeats 4000000
namespace Tee
open PySem PySem.Spec PyProof.Rows L2
mutual
inductive Dd (H : Hp) : V → PyData → Prop
  | non : Dd H .non .none
  | bl (b : Bool) : Dd H (.bl b) (.bool b)
  | int (i : Int) : Dd H (.int i) (.int i)
  | str (x : Str) : Dd H (.str x) (.str x)
  | lst {a : Addr} {xs : List V} {ds : List PyData} (h : H a = some (.lst xs)) (r : DdAll H xs ds) : Dd H (.ref a) (.list ds)
  | tup {a : Addr} {xs : List V} {ds : List PyData} (h : H a = some (.tup xs)) (r : DdAll H xs ds) : Dd H (.ref a) (.tuple ds)
  | dct0 {a : Addr} (h : H a = some (.dK [])) : Dd H (.ref a) (.dict [])
  | dct1 {a : Addr} {x : Str} {i : Int} (h : H a = some (.dK [(.inr x, .int i)])) : Dd H (.ref a) (.dict [(.str x, .int i)])
inductive DdAll (H : Hp) : List V → List PyData → Prop
  | nil : DdAll H [] []
  | cons {v : V} {vs : List V} {d : PyData} {ds : List PyData} (h : Dd H v d) (t : DdAll H vs ds) : DdAll H (v :: vs) (d :: ds)
end
mutual
theorem Dd.mono {H H' : Hp} (e : Same H H') : ∀ (d : PyData) (v : V), Dd H v d → Dd H' v d
  | .none, _, h => by cases h; exact .non
  | .bool b, _, h => by cases h; exact .bl b
  | .int i, _, h => by cases h; exact .int i
  | .str x, _, h => by cases h; exact .str x
  | .list ds, _, h => by
    cases h with
    | lst h r => exact .lst (e _ _ h) (DdAll.mono e ds _ r)
  | .tuple ds, _, h => by
    cases h with
    | tup h r => exact .tup (e _ _ h) (DdAll.mono e ds _ r)
  | .dict kvs, _, h => by
    cases h with
    | dct0 h => exact .dct0 (e _ _ h)
    | dct1 h => exact .dct1 (e _ _ h)
theorem DdAll.mono {H H' : Hp} (e : Same H H') : ∀ (ds : List PyData) (vs : List V), DdAll H vs ds → DdAll H' vs ds
  | [], _, h => by cases h; exact .nil
  | d :: ds, _, h => by
    cases h with
    | cons h t => exact .cons (Dd.mono e d _ h) (DdAll.mono e ds _ t)
end
def SysAt (base : Heap) : Prop := ∃ mm, base.Ns sysModules mm
theorem kV_is' {x : Str} {v : Value} (h : keyIs (.inr x) v = true) : ∃ t, v = Value.str x t := by
  rcases keyIs_shape h with ⟨i, t, z, _⟩ | ⟨y, t, z, rfl⟩
  · cases z
  · cases z
    exact ⟨t, rfl⟩
section
variable {X : Cx} {pins : List (Addr × Obj)} {σ : L2.St} {H : Hp} {s : Shared}
theorem seq_ne_sys (hs : SysAt X.base) (I : Inv X pins σ H s) {a : Addr} {o : Obj} {its : Array Value} {n : Nat} (h : s.heap.get? a = some o) (hd : o.data = .seq its n) : sysModules ≠ a := fun e => by
  obtain ⟨mm, o', es, ep, h1, h2, _⟩ := hs
  have h3 := I.bk _ _ h1
  rw [e, h] at h3
  cases h3
  rw [hd] at h2
  cases h2
mutual
theorem Dd.reads (hs : SysAt X.base) (I : Inv X pins σ H s) : ∀ (d : PyData) (v : V) (u : Value), Dd H v d → RelV v u → ∃ as, Reads s.heap u d as ∧ sysModules ∉ as
  | .none, _, u, h, r => by
    cases h
    cases (show u = Value.none from r)
    exact ⟨_, .none, by simp⟩
  | .bool b, _, u, h, r => by
    cases h
    cases (show u = Value.bool b from r)
    exact ⟨_, .bool b, by simp⟩
  | .int i, _, u, h, r => by
    cases h
    obtain ⟨t, q⟩ := (show ∃ t, u = Value.int i t from r)
    cases q
    exact ⟨_, .int i t, by simp⟩
  | .str x, _, u, h, r => by
    cases h
    obtain ⟨t, q⟩ := (show ∃ t, u = Value.str x t from r)
    cases q
    exact ⟨_, .str x t, by simp⟩
  | .list ds, _, u, h, r => by
    cases h with
    | @lst a xs _ hl ha =>
      cases (show u = Value.ref a from r)
      obtain ⟨its, rv, ⟨o, n, e, hc, _, hd⟩, _⟩ := I.list (SqL.of hl)
      obtain ⟨as, q, na⟩ := DdAll.reads hs I ds _ its ha rv
      exact ⟨_, .list e hc hd q, by simp only [List.mem_cons, not_or]; exact ⟨seq_ne_sys hs I e hd, na⟩⟩
  | .tuple ds, _, u, h, r => by
    cases h with
    | @tup a xs _ hl ha =>
      cases (show u = Value.ref a from r)
      obtain ⟨its, rv, ⟨o, e, hc, n, hd⟩, _⟩ := I.tuple (SqT.of hl)
      obtain ⟨as, q, na⟩ := DdAll.reads hs I ds _ its ha rv
      exact ⟨_, .tuple e hc hd q, na⟩
  | .dict kvs, _, u, h, r => by
    cases h with
    | @dct0 a h =>
      cases (show u = Value.ref a from r)
      obtain ⟨_, ns, vs, kv, o, es, ep, e, ex, hd, _, ps, _⟩ := (show ObjOk X.prog X.w H s.heap a (.dK []) from I.hok a _ h)
      cases kv
      have e0 : es.toList = [] := by
        generalize es.toList = l at ps
        cases ps
        rfl
      refine ⟨_, .dict (kvs := []) e ex.1 hd (by rw [e0]; exact .nil) (by rw [e0]; exact .nil), ?_⟩
      simp only [List.append_nil, List.mem_cons, List.not_mem_nil, or_false]
      exact fun z => by rw [← z] at ns; simp at ns
    | @dct1 a x i h =>
      cases (show u = Value.ref a from r)
      obtain ⟨_, ns, vs, kv, o, es, ep, e, ex, hd, _, ps, _⟩ := (show ObjOk X.prog X.w H s.heap a (.dK [(.inr x, .int i)]) from I.hok a _ h)
      cases kv with
      | @cons _ q _ qs hq t =>
        cases t
        obtain ⟨k, w⟩ := q
        obtain ⟨hk, hw⟩ := hq
        simp only at hk hw
        subst hk
        obtain ⟨tt, rfl⟩ := (show ∃ t, w = Value.int i t from hw)
        have e0 : ∃ en : DictEntry, es.toList = [en] ∧ keyIs (.inr x) en.key = true ∧ en.val = Value.int i tt := by
          generalize es.toList = l at ps
          cases ps with
          | cons h1 h2 h3 =>
            cases h3
            exact ⟨_, rfl, h1, h2⟩
        obtain ⟨en, e0, e1, e2⟩ := e0
        obtain ⟨tk, e3⟩ : ∃ t, en.key = Value.str x t := kV_is' e1
        have rk : ReadsAll s.heap (es.toList.map (·.key)) [PyData.str x] ([] ++ []) := by
          rw [e0]
          show ReadsAll s.heap [en.key] [PyData.str x] ([] ++ [])
          rw [e3]
          exact .cons (.str x tk) .nil
        have rl : ReadsAll s.heap (es.toList.map (·.val)) [PyData.int i] ([] ++ []) := by
          rw [e0]
          show ReadsAll s.heap [en.val] [PyData.int i] ([] ++ [])
          rw [e2]
          exact .cons (.int i tt) .nil
        refine ⟨_, .dict (kvs := [(.str x, .int i)]) e ex.1 hd rk rl, ?_⟩
        simp only [List.append_nil, List.mem_cons, List.not_mem_nil, or_false]
        exact fun z => by rw [← z] at ns; simp at ns
theorem DdAll.reads (hs : SysAt X.base) (I : Inv X pins σ H s) : ∀ (ds : List PyData) (vs : List V) (us : List Value), DdAll H vs ds → Vals vs us → ∃ as, ReadsAll s.heap us ds as ∧ sysModules ∉ as
  | [], _, us, h, r => by
    cases h
    cases r
    exact ⟨_, .nil, by simp⟩
  | d :: ds, _, us, h, r => by
    cases h with
    | cons h t =>
      cases r with
      | cons r1 r2 =>
        obtain ⟨as, q1, n1⟩ := Dd.reads hs I d _ _ h r1
        obtain ⟨bs, q2, n2⟩ := DdAll.reads hs I ds _ _ t r2
        exact ⟨_, .cons q1 q2, by simp only [List.mem_append, not_or]; exact ⟨n1, n2⟩⟩
end
end
def rRepr : List V → Hp → VK → Prop := fun xs H Q => ∃ (a : Addr) (d : PyData), xs = [.ref a] ∧ Dd H (.ref a) d ∧ d.showable = true ∧ d.depth ≤ 60 ∧ d.shown.length ≤ sizeLine ∧ Q (.str d.shown) H
theorem call_repr_data {X : Cx} (hs : SysAt X.base) (hg : X.A.guards = some []) (hu : X.A.units + 64 < cLine) : CallR X (.builtin "repr") rRepr := by
  intro pins s σ H xs us Q I r h
  obtain ⟨a, d, rfl, hd, sh, dp, hz, q⟩ := h
  obtain ⟨u, rfl, r1⟩ := vals1 r
  obtain ⟨as, rd, na⟩ := Dd.reads hs I d _ _ hd r1
  cases (show u = Value.ref a from r1)
  refine PySem.repr_of_reads' rd sh (fun _ => na) hg (by omega) (fun _ _ e => e) (fun h' u tk hk => ?_) hz
  exact ⟨.str d.shown, H, I.kept hk, ⟨_, rfl⟩, q⟩
section
variable {P : Program} {w : World} {K : PySem.W.Frag} {mg : Str → Option Value} {base : Heap} {CX : CXT}
structure Gok (P : Program) (w : World) (K : PySem.W.Frag) (mg : Str → Option Value) (base : Heap) (CX : CXT) (k : Nat) (f : Addr) (fd : FuncData) (ps : List Str) (sp : Sp) : Prop where
  len : ∀ vs H Q E, sp vs H Q E → vs.length = ps.length
  go : ∀ (B : Around) (above : List Env) (t : Shared) (H : Hp) (ar : Args) (us : List Value) (vs : List V) (Q : VK) (E : XK),
    B.guards = some [] → Room k B → Env0 P w K mg base B above t H → BindsTo t fd ar (ps.zip us) → Vals vs us → sp vs H Q E →
    codeAny (model P w) B (.call (.ref f) ar) (CR CX above P w H t Q E) t
theorem Gok.of {k : Nat} {f : Addr} {fd : FuncData} {ps : List Str} {sp : Sp} (F : FnOk P w K mg base CX k f fd ps sp) : Gok P w K mg base CX k f fd ps sp :=
  ⟨F.len, fun B above t H ar us vs Q E _ hr e hb r h => F.run B above t H ar us vs Q E hr e hb r h⟩
theorem g_of {k : Nat} {f : Addr} {name qual : Str} {params : Arguments} {body : List Stmt} {scope : Scope} {dV kV doc pm cdv ct oc : Value} {an od : Option Addr}
    {osl : Array (Option Value)} {N ps : List Str} {sp : Sp}
    (lk : K.lookup f = some ⟨oc, od, .func (PySem.W.fnOf name qual params body scope dV kV doc pm an cdv ct), osl⟩)
    (cd : PySem.W.codeIn K cdv qual = true) (S : FnScope N ps scope) (len : ∀ vs H Q E, sp vs H Q E → vs.length = ps.length)
    (hb : ∀ (B : Around) (above : List Env) (t : Shared) (H : Hp) (vs : List V) (Q : VK) (E : XK), B.guards = some [] →
      Room k (B.deeper (envOfC qual scope t.heap.objs.size f cdv)) → sp vs H Q E →
      ∃ rd, PSs (cxOf CX P w K mg base N qual scope f cdv B above t H E) body rd ∧ rd { nx := fun _ H' => Q .non H', rt := Q } (start N vs) H) :
    Gok P w K mg base CX (k + 1) f (PySem.W.fnOf name qual params body scope dV kV doc pm an cdv ct) ps sp := by
  refine ⟨len, fun B above t H ar us vs Q E hg hr e0 hbd r hsp => ?_⟩
  have hln := len _ _ _ _ hsp
  have KT : K.In t.heap := e0.mod.kin.keeps fun b o z => (e0.bs b o z).1
  have nol : t.heap.NoLimit := e0.mod.nolimit.keeps fun b o z => (e0.bs b o z).1
  refine codeAny_call_function hr.depth (KT _ _ lk) rfl S.co S.gen rfl (PySem.W.codeRec_of KT cd) (hbd _ _ _ _ ?_)
  refine wpAny_newFunctionEnv_cells S.kind (fun y hy => ?_) fun env he t1 x => ?_
  · obtain ⟨n, v⟩ := y
    exact (S.par n (List.of_mem_zip hy).1).elim .inl fun q => .inr ⟨q, PySem.W.cellsFrom_some _ _ _ (.inl q)⟩
  · subst he
    refine ⟨nol.keeps x.toInCall.keep, codeAny_func ?_⟩
    obtain ⟨rd, hrd, hq⟩ := hb B above t H vs Q E hg (hr.deeper _) hsp
    have I := inv_start (CX := CX) (E := E) S hr.hd e0 hln r x
    refine wpAny_mono (hrd.run [] t1 (start N vs) H _ I hq) (fun fl t' ht => ?_) fun e t' ht => ht
    cases fl with
    | ret u =>
      obtain ⟨v, σ', H', J, rv, q⟩ := ht
      exact ⟨v, H', J.os, J.bare, J.base, J.hok, rv, q⟩
    | next =>
      obtain ⟨σ', H', J, q⟩ := ht
      exact ⟨V.non, H', J.os, J.bare, J.base, J.hok, rfl, q⟩
    | brk => exact ht.elim fun _ z => z.elim fun _ z => z.2.elim
    | cont => exact ht.elim fun _ z => z.elim fun _ z => z.2.elim
end
section
variable {X : Cx} {CX : CXT} {k : Nat} {f : Addr} {fd : FuncData} {ps : List Str} {sp : Sp} {dvs : List V} {ds : List Value} {E : XK} {x : Str} {p pos : Pos} {e : Expr} {es : List Expr} {t : TA}
end
theorem lawG {P : Program} {w : World} {K : PySem.W.Frag} {mg mb : Str → Option Value} {CX : CXT} {k : Nat} {fa a : Addr} {fd : FuncData} {x : Str} {sp : Sp} {t : Shared} {vs : List Value} {ns : List Int}
    (KT : K.In t.heap) (hns : t.heap.Ns mainGlobals mg) (hb : t.heap.Ns builtinsNs mb) (hbb : ∀ x : Str, x ≠ "__name__" → mb x = bootBuiltins x) (nol : t.heap.NoLimit) (sy : SysAt t.heap)
    (hg : t.gens = #[]) (ha : t.heap.get? a = some { cls := .type "list", data := .seq vs.toArray }) (hi : IntsAre vs ns) (hl : ns.length ≤ sizeLine) (hr : Room k callerA)
    (F : ∀ base : Heap, K.In base → base.Ns mainGlobals mg → SysAt base → Gok P w K mg base CX k fa fd [x] sp) (hbind : ∀ (s : Shared) (u : Value), BindsTo s fd ⟨[u], []⟩ [(x, u)])
    (hsp : ∀ H : Hp, Only H → SqL K H a (ns.map V.int) → sp [.ref a] H (fun v _ => v = .bl true) fun _ _ _ => False)
    (hCX : ∀ H e s', CX [] H t (fun _ _ _ => False) e s' → False) :
    codeAny (model P w) callerA (.call (.ref fa) ⟨[.ref a], []⟩)
      (fun r s' => r = .ok (.ret (.bool true)) ∧ OldK t.heap s'.heap ∧ s'.os = t.os ∧ AllBare s'.gens) t := by
  have rv := vals_ints hi
  have lv := hi.length
  have main : ∀ H : Hp, Only H → SqL K H a (ns.map V.int) → HOk P w H t.heap → (∀ b, H b ≠ none → b = a) → (H a ≠ none → K.lookup a = none) →
      codeAny (model P w) callerA (.call (.ref fa) ⟨[.ref a], []⟩)
        (fun r s' => r = .ok (.ret (.bool true)) ∧ OldK t.heap s'.heap ∧ s'.os = t.os ∧ AllBare s'.gens) t := by
    intro H hO hS hok hA hK
    have none_of : ∀ {b : Addr} {o : Obj}, (b = a → False) → t.heap.get? b = some o → H b = none := fun {b o} q _ => by
      cases z : H b with
      | none => rfl
      | some u => exact (q (hA b (by rw [z]; simp))).elim
    have ns_none : ∀ {b : Addr} {m : Str → Option Value}, t.heap.Ns b m → (hidT t.heap H).Ns b m := fun {b m} ⟨o, es, ep, e, d, r⟩ =>
      ⟨o, es, ep, hidT_get e (none_of (fun q => by subst q; rw [ha] at e; cases e; cases d) e), d, r⟩
    have hKb : K.In (hidT t.heap H) := fun b o e => hidT_get (KT b o e) (by
      cases z : H b with
      | none => rfl
      | some u =>
        have q : b = a := hA b (by rw [z]; simp)
        subst q
        rw [hK (by rw [z]; simp)] at e
        cases e)
    have hM : Mod K mg (hidT t.heap H) := ⟨hKb, ns_none hns, ⟨mb, ns_none hb, hbb⟩, nol.elim fun mc z => ⟨mc, ns_none z.1, z.2⟩⟩
    have e0 : Env0 P w K mg (hidT t.heap H) callerA [] t H :=
      ⟨rfl, hM, fun b o e => of_hidT e, Nat.le_of_eq (hidT_size _ _), trivial, fun b hb => absurd (show b ∈ ([] : List Addr) from hb) (by simp), hok, .of_eq hg⟩
    have g := (F _ hKb (ns_none hns) (sy.elim fun mm z => ⟨mm, ns_none z⟩)).go callerA [] t H ⟨[.ref a], []⟩ [.ref a] [.ref a] _ _ rfl hr e0 (hbind t (.ref a)) (.cons rfl .nil) (hsp H hO hS)
    refine codeAny_mono g fun r s' h => ?_
    cases r with
    | error e => exact (hCX H e s' h).elim
    | ok fl =>
      cases fl with
      | next => exact h.elim
      | brk => exact h.elim
      | cont => exact h.elim
      | ret u =>
        obtain ⟨v, H', os, bare, un, hok', r', q⟩ := h
        cases (show v = .bl true from q)
        cases (show u = Value.bool true from r')
        refine ⟨rfl, OldK.of_keep fun b o e => ?_, os, bare⟩
        cases z : H b with
        | none => exact un.keep b o e z (fun y => absurd (show b ∈ ([] : List Addr) from y) (by simp)) (by simp)
        | some u =>
          rcases hO b with y | ⟨ob, xs, y⟩
          · rw [z] at y
            cases y
          · have e1 := (hok b _ y).1
            have e2 := (hok' b _ (un.frzs b ob _ y)).1
            rw [e] at e1
            cases e1
            exact e2
  cases hk : K.lookup a with
  | some o =>
    have e := KT a o hk
    rw [ha] at e
    cases e
    have nn : ∀ b : Addr, (fun _ => none : Hp) b = none := fun _ => rfl
    exact main (fun _ => none) (fun _ => .inl rfl) (.inr ⟨_, vs.toArray, _, hk, rfl, rfl, rfl, by rw [List.size_toArray, lv]; exact hl, by simpa using rv⟩)
      (fun b u z => by have z' := (nn b).symm.trans z; cases z') (fun b z => (z (nn b)).elim) (fun z => (z (nn a)).elim)
  | none =>
    have at_a : (fun b => if b = a then some (.frz { cls := .type "list", data := .seq vs.toArray } (.lst (ns.map V.int))) else none : Hp) a =
        some (.frz { cls := .type "list", data := .seq vs.toArray } (.lst (ns.map V.int))) := if_pos rfl
    have off : ∀ b, b ≠ a → (fun b => if b = a then some (.frz { cls := .type "list", data := .seq vs.toArray } (.lst (ns.map V.int))) else none : Hp) b = none := fun b q => if_neg q
    refine main (fun b => if b = a then some (.frz { cls := .type "list", data := .seq vs.toArray } (.lst (ns.map V.int))) else none) (fun b => ?_)
      (.inl (.inr ⟨_, at_a⟩)) (fun b u z => ?_) (fun b z => ?_) fun _ => hk
    · by_cases q : b = a
      · subst q
        exact .inr ⟨_, _, at_a⟩
      · exact .inl (off b q)
    · by_cases q : b = a
      · subst q
        rw [at_a] at z
        cases z
        exact ⟨ha, by rw [List.length_map]; exact hl, vs, _, rv, ha⟩
      · rw [off b q] at z
        cases z
    · by_cases q : b = a
      · exact q
      · exact (z (off b q)).elim
theorem walkG {l : PySem.W.OpenLaw} {n k : Nat} {q : Program} {loose : List Str} {XP : (Str → Option Value) → Heap → Prop} {YP : World → Heap → Prop} {d : DefRec} {K : Params → PySem.W.Frag} {CX : World → CXT} {sp : World → Sp} {x : Str}
    (hn : l.most = some n) (hn2 : n ≤ sizeLine) (hdf : d.params.defaults = []) (him : importsNone q = true) (hr : Room k callerA)
    (hY : ∀ (w : World) (h : Heap), YP w h → (K w.params).In h)
    (F : ∀ (w : World) (mg : Str → Option Value) (fa : Addr) (h : Heap), (K w.params).In h → h.Ns mainGlobals mg → mg d.name = some (.ref fa) →
      ∃ fd : FuncData, (∀ (s : Shared) (u : Value), BindsTo s fd ⟨[u], []⟩ [(x, u)]) ∧
        ∀ base : Heap, (K w.params).In base → base.Ns mainGlobals mg → SysAt base → Gok l.prog w (K w.params) mg base (CX w) k fa fd [x] (sp w))
    (hsp : ∀ (w : World) (H : Hp) (a : Addr) (ns : List Int), ns.length ≤ n → Only H → SqL (K w.params) H a (ns.map V.int) → sp w [.ref a] H (fun v _ => v = .bl true) fun _ _ _ => False)
    (hCX : ∀ (w : World) (H : Hp) (s : Shared) (e : Value) (s' : Shared), CX w [] H s (fun _ _ _ => False) e s' → False) :
    PySem.W.WalkO q loose XP YP l.row.toRowW d [] (fun f vs => PySem.call f vs) := by
  refine Att.attach_call hn hdf fun w s₀ t mg mb fa o pm cd doc a vs ns G Y ho hd hcd hmg hobj hints hlen hg => ?_
  obtain ⟨fd, hb, hF⟩ := F w mg fa _ (hY w _ Y) G.T.g hmg
  exact lawG (hY w _ Y) G.T.g G.T.b G.T.builtins G.T.nolimit (let ⟨mm, z, _⟩ := (G.T.seer him).mods; ⟨mm, z⟩) hg hobj hints (Nat.le_trans hlen hn2) hr hF hb (fun H hO hS => hsp w H a ns hlen hO hS) fun H e s' => hCX w H t e s'
end Tee
namespace Tee
open PySem PySem.Spec PyProof.Rows L2
def ReelAt (R : Hp) (r : Addr) : Prop := ∃ (g e : Addr) (gs es : List Int) (c z : Int),
  R r = some (.lst [.ref g, .ref e, .int c, .int z]) ∧ R g = some (.lst (gs.map V.int)) ∧ R e = some (.lst (es.map V.int)) ∧
  (∀ x ∈ gs, 0 ≤ x) ∧ gs.length ≤ 63 ∧ 0 < es.length ∧ es.length ≤ 64 ∧ (∀ x ∈ es, 0 ≤ x ∧ x < 1000003) ∧ 0 ≤ c ∧ 0 ≤ z ∧ z < 2 ^ 140
structure Wd (G R H : Hp) : Prop where
  gh : Same G H
  rh : Same R H
  dis : ∀ b o, R b = some o → G b = none
structure Stp (G R H G2 R2 H2 : Hp) : Prop where
  wd : Wd G2 R2 H2
  keep : ∀ b o, R b = none → H b = some o → H2 b = some o
  dom : ∀ b o, H b = some o → ∃ u, H2 b = some u
  gg : Same G G2
  gnew : ∀ b o, G2 b = some o → G b = none → H b = none
  rnew : ∀ b o, R2 b = some o → R b = none → H b = none
  rel : ∀ r, ReelAt R r → ReelAt R2 r
theorem Stp.refl {G R H : Hp} (w : Wd G R H) : Stp G R H G R H where
  wd := w
  keep := fun _ _ _ e => e
  dom := fun _ o e => ⟨o, e⟩
  gg := Same.refl G
  gnew := fun b o e n => by rw [n] at e; cases e
  rnew := fun b o e n => by rw [n] at e; cases e
  rel := fun _ h => h
theorem Stp.trans {G R H G2 R2 H2 G3 R3 H3 : Hp} (a : Stp G R H G2 R2 H2) (b : Stp G2 R2 H2 G3 R3 H3) : Stp G R H G3 R3 H3 where
  wd := b.wd
  keep := fun x o n e => b.keep x o (by
    cases q : R2 x with
    | none => rfl
    | some u => have := a.rnew x u q n; rw [e] at this; cases this) (a.keep x o n e)
  dom := fun x o e => let ⟨u, q⟩ := a.dom x o e; b.dom x u q
  gg := a.gg.trans b.gg
  gnew := fun x o e n => by
    cases q : G2 x with
    | some u => exact a.gnew x u q n
    | none =>
      have h2 := b.gnew x o e q
      cases q1 : H x with
      | none => rfl
      | some u => obtain ⟨u2, z⟩ := a.dom x u q1; rw [h2] at z; cases z
  rnew := fun x o e n => by
    cases q : R2 x with
    | some u => exact a.rnew x u q n
    | none =>
      have h2 := b.rnew x o e q
      cases q1 : H x with
      | none => rfl
      | some u => obtain ⟨u2, z⟩ := a.dom x u q1; rw [h2] at z; cases z
  rel := fun r h => b.rel r (a.rel r h)
theorem Stp.new {G R H : Hp} (w : Wd G R H) {p : Addr} {o : HO} (hp : H p = none) : Stp G R H (upd G p o) R (upd H p o) := by
  have np : ∀ b u, H b = some u → b ≠ p := fun b u e => ne_of_none e hp
  refine ⟨⟨fun b u e => ?_, fun b u e => ?_, fun b u e => ?_⟩, fun b u _ e => ?_, fun b u e => ⟨u, ?_⟩, fun b u e => ?_, fun b u e n => ?_, fun b u e n => ?_, fun _ h => h⟩
  · by_cases q : b = p
    · subst q; rw [upd_same] at e ⊢; exact e
    · rw [upd_ne q] at e ⊢; exact w.gh b u e
  · rw [upd_ne (np b u (w.rh b u e))]; exact w.rh b u e
  · rw [upd_ne (np b u (w.rh b u e))]; exact w.dis b u e
  · rw [upd_ne (np b u e)]; exact e
  · rw [upd_ne (np b u e)]; exact e
  · rw [upd_ne (np b u (w.gh b u e))]; exact e
  · by_cases q : b = p
    · subst q; exact hp
    · rw [upd_ne q, n] at e; cases e
  · rw [n] at e; cases e
inductive OwnO where
  | lst (xs : List PyData)
  | dct (kvs : List (Key × PyData))
  | nst (as : List Addr) (its : List (PyData ⊕ List PyData))
inductive SV where
  /-- data that stands still -/
  | dat (d : PyData)
  /-- an object of this def's own -/
  | obj (o : OwnO)
  /-- the reel -/
  | rel
  /-- the script -/
  | scr (ns : List Int)
abbrev SV.own (xs : List PyData) : SV := .obj (.lst xs)
abbrev Rho := List (Option SV)
def ScrL (K : PySem.W.Frag) (G : Hp) (a : Addr) (xs : List V) : Prop := (∃ o, G a = some (.frz o (.lst xs))) ∨ SqL K (fun _ => none) a xs
theorem ScrL.mono {K : PySem.W.Frag} {G G' : Hp} {a : Addr} {xs : List V} (e : Same G G') (h : ScrL K G a xs) : ScrL K G' a xs := h.elim (fun ⟨o, z⟩ => .inl ⟨o, e _ _ z⟩) .inr
theorem ScrL.seq {K : PySem.W.Frag} {G : Hp} {a : Addr} {xs : List V} (h : ScrL K G a xs) : SqL K G a xs := h.elim (fun ⟨o, z⟩ => .inl (.inr ⟨o, z⟩)) fun z => Same.seq (fun b o q => absurd (show (none : Option HO) = some o from q) (by simp)) z
def foot : OwnO → V → List Addr
  | .lst _, .ref l => [l]
  | .dct _, .ref l => [l]
  | .nst as _, .ref _ => as
  | _, _ => []
def NstAll (G H : Hp) : List V → List (PyData ⊕ List PyData) → List Addr → Prop
  | [], [], [] => True
  | v :: vs, .inl d :: its, fps => Dd G v d ∧ NstAll G H vs its fps
  | v :: vs, .inr xs :: its, p :: fps => v = .ref p ∧ (∃ ws, H p = some (.lst ws) ∧ DdAll G ws xs) ∧ NstAll G H vs its fps
  | _, _, _ => False
theorem NstAll.mono {G G' H H' : Hp} (sm : Same G G') : ∀ (its : List (PyData ⊕ List PyData)) (vs : List V) (fps : List Addr), (∀ a ∈ fps, H' a = H a) → NstAll G H vs its fps → NstAll G' H' vs its fps
  | [], [], [], _, _ => trivial
  | .inl d :: its, v :: vs, fps, hh, h => by
    cases fps <;> exact ⟨Dd.mono sm _ _ h.1, NstAll.mono sm its vs _ hh h.2⟩
  | .inr xs :: its, v :: vs, p :: fps, hh, h => by
    obtain ⟨h1, ⟨ws, h2, h3⟩, h4⟩ := h
    exact ⟨h1, ⟨ws, by rw [hh p (by simp)]; exact h2, DdAll.mono sm _ _ h3⟩, NstAll.mono sm its vs fps (fun a ha => hh a (List.mem_cons_of_mem _ ha)) h4⟩
  | [], [], _ :: _, _, h => h.elim
  | [], _ :: _, [], _, h => h.elim
  | [], _ :: _, _ :: _, _, h => h.elim
  | .inl _ :: _, [], [], _, h => h.elim
  | .inl _ :: _, [], _ :: _, _, h => h.elim
  | .inr _ :: _, [], [], _, h => h.elim
  | .inr _ :: _, [], _ :: _, _, h => h.elim
  | .inr _ :: _, _ :: _, [], _, h => h.elim
def OwnAt (G H : Hp) : OwnO → V → Prop
  | .lst xs, .ref l => ∃ vs, H l = some (.lst vs) ∧ DdAll G vs xs
  | .dct kvs, .ref l => ∃ es : List (Key × V), H l = some (.dK es) ∧ es.map (·.1) = kvs.map (·.1) ∧ DdAll G (es.map (·.2)) (kvs.map (·.2))
  | .nst as its, .ref l => ∃ vs fps, as = l :: fps ∧ as.Nodup ∧ H l = some (.lst vs) ∧ NstAll G H vs its fps
  | _, _ => False
theorem OwnAt.mono {G G' H H' : Hp} (sm : Same G G') {o : OwnO} {v : V} (hh : ∀ a ∈ foot o v, H' a = H a) (h : OwnAt G H o v) : OwnAt G' H' o v := by
  cases v with
  | ref l =>
    cases o with
    | lst xs =>
      obtain ⟨vs, h1, h2⟩ := h
      exact ⟨vs, by rw [hh l (by simp [foot])]; exact h1, DdAll.mono sm _ _ h2⟩
    | dct kvs =>
      obtain ⟨es, h1, h2, h3⟩ := h
      exact ⟨es, by rw [hh l (by simp [foot])]; exact h1, h2, DdAll.mono sm _ _ h3⟩
    | nst as its =>
      obtain ⟨vs, fps, e, nd, h1, h2⟩ := h
      have hh' : ∀ a ∈ as, H' a = H a := hh
      exact ⟨vs, fps, e, nd, by rw [hh' l (by rw [e]; simp)]; exact h1, NstAll.mono sm _ _ _ (fun a ha => hh' a (by rw [e]; exact List.mem_cons_of_mem _ ha)) h2⟩
  | _ => cases o <;> exact h.elim
def Free (H0 G R H : Hp) (a : Addr) : Prop := G a = none ∧ R a = none ∧ H0 a = none ∧ ∃ u, H a = some u
def SlotR (K : PySem.W.Frag) (H0 G R H : Hp) : Option SV → Option (Option V) → Prop
  | none, _ => True
  | some (.dat d), some (some v) => Dd G v d
  | some (.obj o), some (some v) => OwnAt G H o v ∧ ∀ a ∈ foot o v, Free H0 G R H a
  | some .rel, some (some (.ref r)) => ReelAt R r
  | some (.scr ns), some (some (.ref a)) => ScrL K G a (ns.map V.int)
  | _, _ => False
theorem slot_heap {K : PySem.W.Frag} {H0 G R H H' : Hp} {q : Option SV} {x : Option (Option V)} (n : ∀ o, q ≠ some (.obj o)) (z : SlotR K H0 G R H q x) : SlotR K H0 G R H' q x := by
  unfold SlotR at z ⊢
  split at z
  · trivial
  · exact z
  · exact absurd rfl (n _)
  · exact z
  · exact z
  · exact z
structure EnvR (K : PySem.W.Frag) (H0 : Hp) (ρ : Rho) (σ : L2.St) (G R H : Hp) : Prop where
  wd : Wd G R H
  len : ρ.length = σ.length
  slot : ∀ (i : Nat) (q : Option SV), ρ[i]? = some q → SlotR K H0 G R H q σ[i]?
  apart : ∀ (i j : Nat) (o o' : OwnO) (v v' : V) (a : Addr), ρ[i]? = some (some (.obj o)) → ρ[j]? = some (some (.obj o')) → σ[i]? = some (some v) → σ[j]? = some (some v') → a ∈ foot o v → a ∈ foot o' v' → i = j
theorem Stp.free1 {G R H G2 R2 H2 : Hp} (s : Stp G R H G2 R2 H2) {H0 : Hp} {a : Addr} (h : Free H0 G R H a) : Free H0 G2 R2 H2 a ∧ H2 a = H a := by
  obtain ⟨h1, h2, h3, u, h4⟩ := h
  have k := s.keep a u h2 h4
  refine ⟨⟨?_, ?_, h3, u, k⟩, by rw [k, h4]⟩
  · cases q : G2 a with
    | none => rfl
    | some u => have := s.gnew a u q h1; rw [h4] at this; cases this
  · cases q : R2 a with
    | none => rfl
    | some u => have := s.rnew a u q h2; rw [h4] at this; cases this
theorem SlotR.step {K : PySem.W.Frag} {H0 G R H G2 R2 H2 : Hp} (s : Stp G R H G2 R2 H2) {q : Option SV} {x : Option (Option V)} (h : SlotR K H0 G R H q x) : SlotR K H0 G2 R2 H2 q x := by
  unfold SlotR at h ⊢
  split at h
  · trivial
  · exact Dd.mono s.gg _ _ h
  · exact ⟨OwnAt.mono s.gg (fun a ha => (s.free1 (h.2 a ha)).2) h.1, fun a ha => (s.free1 (h.2 a ha)).1⟩
  · exact s.rel _ h
  · exact ScrL.mono s.gg h
  · exact h.elim
theorem EnvR.step {K : PySem.W.Frag} {H0 : Hp} {ρ : Rho} {σ : L2.St} {G R H G2 R2 H2 : Hp} (E : EnvR K H0 ρ σ G R H) (s : Stp G R H G2 R2 H2) : EnvR K H0 ρ σ G2 R2 H2 :=
  ⟨s.wd, E.len, fun i q e => (E.slot i q e).step s, E.apart⟩
theorem set_other {ρ : Rho} {i c : Nat} {x : Option SV} {o : OwnO} (n : ∀ o, x ≠ some (.obj o)) (hc : (ρ.set i x)[c]? = some (some (.obj o))) : i ≠ c ∧ ρ[c]? = some (some (.obj o)) := by
  by_cases q : i = c
  · subst q
    have hl := (List.getElem?_eq_some_iff.mp hc).1
    rw [List.length_set] at hl
    rw [List.getElem?_set_self hl] at hc
    cases hc
    exact absurd rfl (n _)
  · rw [List.getElem?_set_ne q] at hc
    exact ⟨q, hc⟩
theorem EnvR.setS {K : PySem.W.Frag} {H0 : Hp} {ρ : Rho} {σ : L2.St} {G R H : Hp} (E : EnvR K H0 ρ σ G R H) (i : Nat) {q : Option SV} {x : Option V} (n : ∀ o, q ≠ some (.obj o)) (h : SlotR K H0 G R H q (some x)) : EnvR K H0 (ρ.set i q) (σ.set i x) G R H := by
  refine ⟨E.wd, by rw [List.length_set, List.length_set]; exact E.len, fun j q' e => ?_, fun a b o o' v v' c h1 h2 h3 h4 => ?_⟩
  · by_cases hj : i = j
    · subst hj
      have hl : i < ρ.length := by
        have := (List.getElem?_eq_some_iff.mp e).1
        rwa [List.length_set] at this
      rw [List.getElem?_set_self hl] at e
      rw [List.getElem?_set_self (E.len ▸ hl)]
      cases e
      exact h
    · rw [List.getElem?_set_ne hj] at e ⊢
      exact E.slot j q' e
  · obtain ⟨n1, e1⟩ := set_other n h1
    obtain ⟨n2, e2⟩ := set_other n h2
    rw [List.getElem?_set_ne n1] at h3
    rw [List.getElem?_set_ne n2] at h4
    exact E.apart a b o o' v v' c e1 e2 h3 h4
theorem EnvR.setD {K : PySem.W.Frag} {H0 : Hp} {ρ : Rho} {σ : L2.St} {G R H : Hp} (E : EnvR K H0 ρ σ G R H) (i : Nat) {d : PyData} {v : V} (h : Dd G v d) : EnvR K H0 (ρ.set i (some (.dat d))) (σ.set i (some v)) G R H :=
  E.setS i (fun _ z => by cases z) h
theorem EnvR.drop {K : PySem.W.Frag} {H0 : Hp} {ρ : Rho} {σ : L2.St} {G R H : Hp} (E : EnvR K H0 ρ σ G R H) (i : Nat) (x : Option V) : EnvR K H0 (ρ.set i none) (σ.set i x) G R H :=
  E.setS i (fun _ z => by cases z) trivial
def Beside (ρ : Rho) (σ : L2.St) (D : Addr) : Prop := ∀ (i : Nat) (o : OwnO) (v : V), ρ[i]? = some (some (.obj o)) → σ[i]? = some (some v) → D ∉ foot o v
theorem EnvR.beside {K : PySem.W.Frag} {H0 : Hp} {ρ : Rho} {σ : L2.St} {G R H : Hp} (E : EnvR K H0 ρ σ G R H) {p : Addr} (hp : H p = none) : Beside ρ σ p := fun i o v h1 h2 q => by
  have z := E.slot i _ h1
  rw [h2] at z
  obtain ⟨_, _, _, u, h3⟩ := z.2 p q
  rw [hp] at h3
  cases h3
theorem EnvR.off {K : PySem.W.Frag} {H0 : Hp} {ρ : Rho} {σ : L2.St} {G R H : Hp} (E : EnvR K H0 ρ σ G R H) {D : Addr} {o : HO} (hg : G D = none) (hr : R D = none) (hb : Beside ρ σ D) : EnvR K H0 ρ σ G R (upd H D o) := by
  have ng : ∀ b u, G b = some u → b ≠ D := fun b u e => ne_of_none e hg
  have nr : ∀ b u, R b = some u → b ≠ D := fun b u e => ne_of_none e hr
  refine ⟨⟨fun b u e => by rw [upd_ne (ng b u e)]; exact E.wd.gh b u e, fun b u e => by rw [upd_ne (nr b u e)]; exact E.wd.rh b u e, E.wd.dis⟩, E.len, fun j q e => ?_, E.apart⟩
  have z := E.slot j q e
  cases q with
  | none => trivial
  | some sv =>
    cases sv with
    | obj p =>
      cases hsj : σ[j]? with
      | none => rw [hsj] at z; exact z
      | some y =>
        cases y with
        | none => rw [hsj] at z; exact z
        | some v =>
          rw [hsj] at z
          have ne : ∀ a ∈ foot p v, upd H D o a = H a := fun a ha => upd_ne (fun q => hb j p v e hsj (q ▸ ha))
          exact ⟨OwnAt.mono (Same.refl G) ne z.1, fun a ha => let ⟨k1, k2, k3, u, k4⟩ := z.2 a ha; ⟨k1, k2, k3, u, by rw [ne a ha]; exact k4⟩⟩
    | dat d => exact slot_heap (fun _ q => by cases q) z
    | rel => exact slot_heap (fun _ q => by cases q) z
    | scr ns => exact slot_heap (fun _ q => by cases q) z
theorem set_split {ρ : Rho} {σ : L2.St} (len : ρ.length = σ.length) {i c : Nat} {o p : OwnO} {v w : V} (h1 : (ρ.set i (some (.obj o)))[c]? = some (some (.obj p))) (h3 : (σ.set i (some v))[c]? = some (some w)) :
    (i = c ∧ p = o ∧ w = v) ∨ (i ≠ c ∧ ρ[c]? = some (some (.obj p)) ∧ σ[c]? = some (some w)) := by
  by_cases q : i = c
  · subst q
    have hl := (List.getElem?_eq_some_iff.mp h1).1
    rw [List.length_set] at hl
    rw [List.getElem?_set_self hl] at h1
    rw [List.getElem?_set_self (len ▸ hl)] at h3
    cases h1
    cases h3
    exact .inl ⟨rfl, rfl, rfl⟩
  · rw [List.getElem?_set_ne q] at h1 h3
    exact .inr ⟨q, h1, h3⟩
theorem EnvR.put {K : PySem.W.Frag} {H0 : Hp} {ρ : Rho} {σ : L2.St} {G R H : Hp} (E : EnvR K H0 ρ σ G R H) (i : Nat) {o : OwnO} {v : V} (h : OwnAt G H o v) (hf : ∀ a ∈ foot o v, Free H0 G R H a ∧ Beside ρ σ a) :
    EnvR K H0 (ρ.set i (some (.obj o))) (σ.set i (some v)) G R H := by
  refine ⟨E.wd, by rw [List.length_set, List.length_set]; exact E.len, fun j q e => ?_, fun a b p p' w w' c h1 h2 h3 h4 c1 c2 => ?_⟩
  · by_cases hj : i = j
    · subst hj
      have hl : i < ρ.length := by
        have := (List.getElem?_eq_some_iff.mp e).1
        rwa [List.length_set] at this
      rw [List.getElem?_set_self hl] at e
      rw [List.getElem?_set_self (E.len ▸ hl)]
      cases e
      exact ⟨h, fun a ha => (hf a ha).1⟩
    · rw [List.getElem?_set_ne hj] at e ⊢
      exact E.slot j q e
  · rcases set_split E.len h1 h3 with ⟨q1, rfl, rfl⟩ | ⟨q1, e1, e3⟩ <;> rcases set_split E.len h2 h4 with ⟨q2, rfl, rfl⟩ | ⟨q2, e2, e4⟩
    · exact q1.symm.trans q2
    · exact absurd c2 ((hf c c1).2 b p' w' e2 e4)
    · exact absurd c1 ((hf c c2).2 a p w e1 e3)
    · exact E.apart a b p p' w w' c e1 e2 e3 e4 c1 c2
theorem none_of_dom {H0 H : Hp} (s0 : ∀ b o, H0 b = some o → ∃ u, H b = some u) {p : Addr} (hp : H p = none) : H0 p = none := by
  cases q : H0 p with
  | none => rfl
  | some u => obtain ⟨u2, z⟩ := s0 _ _ q; rw [hp] at z; cases z
theorem Wd.none {G R H : Hp} (w : Wd G R H) {p : Addr} (hp : H p = none) : G p = none ∧ R p = none := by
  constructor
  · cases q : G p with
    | none => rfl
    | some u => have := w.gh _ _ q; rw [hp] at this; cases this
  · cases q : R p with
    | none => rfl
    | some u => have := w.rh _ _ q; rw [hp] at this; cases this
theorem EnvR.chgO {K : PySem.W.Frag} {H0 : Hp} {ρ : Rho} {σ : L2.St} {G R H H' : Hp} (E : EnvR K H0 ρ σ G R H) {i : Nat} {o o' : OwnO} {v : V} (hi : ρ[i]? = some (some (.obj o))) (hs : σ[i]? = some (some v)) (h : OwnAt G H' o' v) (hf : foot o' v = foot o v)
    (off : ∀ b, b ∉ foot o v → H' b = H b) (on : ∀ b ∈ foot o v, ∃ u, H' b = some u) : EnvR K H0 (ρ.set i (some (.obj o'))) σ G R H' := by
  have fr : ∀ a ∈ foot o v, Free H0 G R H a := by
    have z := E.slot i _ hi
    rw [hs] at z
    exact z.2
  have w2 : Wd G R H' := ⟨fun b u e => by rw [off b (fun q => by rw [(fr b q).1] at e; cases e)]; exact E.wd.gh b u e, fun b u e => by rw [off b (fun q => by rw [(fr b q).2.1] at e; cases e)]; exact E.wd.rh b u e, E.wd.dis⟩
  have hl : i < ρ.length := (List.getElem?_eq_some_iff.mp hi).1
  have back : ∀ (c : Nat) (p : OwnO), (ρ.set i (some (.obj o')))[c]? = some (some (.obj p)) → ∃ p', ρ[c]? = some (some (.obj p')) ∧ ∀ w, σ[c]? = some (some w) → foot p w = foot p' w := fun c p hc => by
    by_cases q : i = c
    · subst q
      rw [List.getElem?_set_self hl] at hc
      cases hc
      refine ⟨o, hi, fun w hw => ?_⟩
      rw [hs] at hw
      cases hw
      exact hf
    · rw [List.getElem?_set_ne q] at hc
      exact ⟨p, hc, fun _ _ => rfl⟩
  refine ⟨w2, by rw [List.length_set]; exact E.len, fun j q e => ?_, fun a b p p' w w' c h1 h2 h3 h4 c1 c2 => ?_⟩
  · by_cases hj : i = j
    · subst hj
      rw [List.getElem?_set_self hl] at e
      cases e
      rw [hs]
      exact ⟨h, fun a ha => by rw [hf] at ha; exact ⟨(fr a ha).1, (fr a ha).2.1, (fr a ha).2.2.1, on a ha⟩⟩
    · rw [List.getElem?_set_ne hj] at e
      have z := E.slot j q e
      cases q with
      | none => trivial
      | some sv =>
        cases sv with
        | obj p =>
          cases hsj : σ[j]? with
          | none => rw [hsj] at z; exact z
          | some y =>
            cases y with
            | none => rw [hsj] at z; exact z
            | some w =>
              rw [hsj] at z
              have ne : ∀ a ∈ foot p w, H' a = H a := fun a ha => off a fun q => hj (E.apart i j o p v w a hi e hs hsj q ha)
              exact ⟨OwnAt.mono (Same.refl G) ne z.1, fun a ha => let ⟨k1, k2, k3, u, k4⟩ := z.2 a ha; ⟨k1, k2, k3, u, by rw [ne a ha]; exact k4⟩⟩
        | dat d => exact slot_heap (fun _ q => by cases q) z
        | rel => exact slot_heap (fun _ q => by cases q) z
        | scr ns => exact slot_heap (fun _ q => by cases q) z
  · obtain ⟨p1, e1, f1⟩ := back a p h1
    obtain ⟨p2, e2, f2⟩ := back b p' h2
    rw [f1 w h3] at c1
    rw [f2 w' h4] at c2
    exact E.apart a b p1 p2 w w' c e1 e2 h3 h4 c1 c2
theorem EnvR.chg {K : PySem.W.Frag} {H0 : Hp} {ρ : Rho} {σ : L2.St} {G R H : Hp} (E : EnvR K H0 ρ σ G R H) {i : Nat} {xs ys : List PyData} {ws : List V} {l : Addr} (hi : ρ[i]? = some (some (.own xs))) (hs : σ[i]? = some (some (.ref l))) (h : DdAll G ws ys) :
    EnvR K H0 (ρ.set i (some (.own ys))) σ G R (upd H l (.lst ws)) :=
  E.chgO (o' := .lst ys) hi hs ⟨ws, upd_same, h⟩ rfl (fun b hb => upd_ne fun q => hb (by rw [q]; simp [foot])) fun b hb => by
    rw [List.mem_singleton.mp (show b ∈ [l] from hb)]
    exact ⟨_, upd_same⟩
def itD : PyData ⊕ List PyData → PyData
  | .inl d => d
  | .inr xs => .list xs
def ownD : OwnO → Option PyData
  | .lst xs => some (.list xs)
  | .nst _ its => some (.list (its.map itD))
  | .dct _ => none
theorem NstAll.dd {G G2 H : Hp} (sm : Same G G2) : ∀ (its : List (PyData ⊕ List PyData)) (vs : List V) (fps : List Addr), (∀ a ∈ fps, G2 a = H a) → NstAll G H vs its fps → DdAll G2 vs (its.map itD)
  | [], [], [], _, _ => .nil
  | .inl d :: its, v :: vs, fps, hh, h => by
    cases fps <;> exact .cons (Dd.mono sm _ _ h.1) (NstAll.dd sm its vs _ hh h.2)
  | .inr xs :: its, v :: vs, p :: fps, hh, h => by
    obtain ⟨rfl, ⟨ws, h2, h3⟩, h4⟩ := h
    exact .cons (.lst (by rw [hh p (by simp)]; exact h2) (DdAll.mono sm _ _ h3)) (NstAll.dd sm its vs fps (fun a ha => hh a (List.mem_cons_of_mem _ ha)) h4)
  | [], [], _ :: _, _, h => h.elim
  | [], _ :: _, [], _, h => h.elim
  | [], _ :: _, _ :: _, _, h => h.elim
  | .inl _ :: _, [], [], _, h => h.elim
  | .inl _ :: _, [], _ :: _, _, h => h.elim
  | .inr _ :: _, [], [], _, h => h.elim
  | .inr _ :: _, [], _ :: _, _, h => h.elim
  | .inr _ :: _, _ :: _, [], _, h => h.elim
theorem OwnAt.dd {G G2 H : Hp} (sm : Same G G2) {o : OwnO} {v : V} {d : PyData} (e : ownD o = some d) (hh : ∀ a ∈ foot o v, G2 a = H a) (h : OwnAt G H o v) : Dd G2 v d := by
  cases v with
  | ref l =>
    cases o with
    | lst xs =>
      cases e
      obtain ⟨vs, h1, h2⟩ := h
      exact .lst (by rw [hh l (by simp [foot])]; exact h1) (DdAll.mono sm _ _ h2)
    | dct kvs => cases e
    | nst as its =>
      cases e
      obtain ⟨vs, fps, e, nd, h1, h2⟩ := h
      have hh' : ∀ a ∈ as, G2 a = H a := hh
      exact .lst (by rw [hh' l (by rw [e]; simp)]; exact h1) (NstAll.dd sm _ _ _ (fun a ha => hh' a (by rw [e]; exact List.mem_cons_of_mem _ ha)) h2)
  | _ => cases o <;> exact h.elim
def inDec (fp : List Addr) (b : Addr) : Bool := fp.any fun a => a == b
theorem inDec_iff {fp : List Addr} {b : Addr} : inDec fp b = true ↔ b ∈ fp := by
  unfold inDec
  rw [List.any_eq_true]
  exact ⟨fun ⟨a, h, e⟩ => by rw [← eq_of_beq e]; exact h, fun h => ⟨b, h, beq_self_eq_true b⟩⟩
def joinH (G H : Hp) (fp : List Addr) : Hp := fun b => if inDec fp b = true then H b else G b
theorem joinH_in {G H : Hp} {fp : List Addr} {b : Addr} (h : b ∈ fp) : joinH G H fp b = H b := if_pos (inDec_iff.mpr h)
theorem joinH_out {G H : Hp} {fp : List Addr} {b : Addr} (h : b ∉ fp) : joinH G H fp b = G b := if_neg fun z => h (inDec_iff.mp z)
theorem EnvR.freezeO {K : PySem.W.Frag} {H0 : Hp} {ρ : Rho} {σ : L2.St} {G R H : Hp} (E : EnvR K H0 ρ σ G R H) {i : Nat} {o : OwnO} {v : V} {d : PyData} (hd : ownD o = some d) (hi : ρ[i]? = some (some (.obj o))) (hs : σ[i]? = some (some v)) :
    EnvR K H0 (ρ.set i (some (.dat d))) σ (joinH G H (foot o v)) R H ∧ Dd (joinH G H (foot o v)) v d ∧ Same G (joinH G H (foot o v)) := by
  obtain ⟨ho, fr⟩ : OwnAt G H o v ∧ ∀ a ∈ foot o v, Free H0 G R H a := by
    have z := E.slot i _ hi
    rw [hs] at z
    exact z
  have sm : Same G (joinH G H (foot o v)) := fun b u e => by rw [joinH_out (fun q => by rw [(fr b q).1] at e; cases e)]; exact e
  have dd : Dd (joinH G H (foot o v)) v d := OwnAt.dd sm hd (fun a ha => joinH_in ha) ho
  have hl : i < ρ.length := (List.getElem?_eq_some_iff.mp hi).1
  refine ⟨⟨⟨fun b u e => ?_, E.wd.rh, fun b u e => ?_⟩, by rw [List.length_set]; exact E.len, fun j q e => ?_, fun a b p p' w w' c h1 h2 h3 h4 => ?_⟩, dd, sm⟩
  · by_cases q : b ∈ foot o v
    · rw [joinH_in q] at e; exact e
    · rw [joinH_out q] at e; exact E.wd.gh b u e
  · rw [joinH_out (fun q => by rw [(fr b q).2.1] at e; cases e)]; exact E.wd.dis b u e
  · by_cases hj : i = j
    · subst hj
      rw [List.getElem?_set_self hl] at e
      cases e
      rw [hs]
      exact dd
    · rw [List.getElem?_set_ne hj] at e
      have z := E.slot j q e
      cases q with
      | none => trivial
      | some sv =>
        cases hsj : σ[j]? with
        | none => rw [hsj] at z; cases sv <;> exact z
        | some y =>
          cases y with
          | none => rw [hsj] at z; cases sv <;> exact z
          | some w =>
            rw [hsj] at z
            cases sv with
            | dat d => exact Dd.mono sm _ _ z
            | obj p =>
              refine ⟨OwnAt.mono sm (fun _ _ => rfl) z.1, fun a ha => ?_⟩
              obtain ⟨k1, k2, k3, k4⟩ := z.2 a ha
              exact ⟨by rw [joinH_out (fun q => hj (E.apart i j o p v w a hi e hs hsj q ha))]; exact k1, k2, k3, k4⟩
            | rel => cases w <;> exact z
            | scr ns =>
              cases w with
              | ref a => exact ScrL.mono sm z
              | _ => exact z
  · obtain ⟨n1, e1⟩ := set_other (fun _ z => by cases z) h1
    obtain ⟨n2, e2⟩ := set_other (fun _ z => by cases z) h2
    exact E.apart a b p p' w w' c e1 e2 h3 h4
theorem EnvR.freezeX {K : PySem.W.Frag} {H0 : Hp} {ρ : Rho} {σ : L2.St} {G R H : Hp} (E : EnvR K H0 ρ σ G R H) {i : Nat} {xs : List PyData} {l : Addr} (hi : ρ[i]? = some (some (.own xs))) (hs : σ[i]? = some (some (.ref l))) :
    ∃ G2, EnvR K H0 (ρ.set i (some (.dat (.list xs)))) σ G2 R H ∧ Dd G2 (.ref l) (.list xs) ∧ Same G G2 ∧ (∀ b o, G2 b = some o → G b = none → H0 b = none) ∧ ∀ b, b ≠ l → G2 b = G b := by
  obtain ⟨E2, dd, sm⟩ := E.freezeO (o := .lst xs) rfl hi hs
  refine ⟨_, E2, dd, sm, fun b u e n => ?_, fun b hb => joinH_out fun q => hb (List.mem_singleton.mp q)⟩
  by_cases q : b ∈ foot (.lst xs) (.ref l)
  · have z := E.slot i _ hi
    rw [hs] at z
    exact (z.2 b q).2.2.1
  · rw [joinH_out q, n] at e; cases e
theorem EnvR.freeze {K : PySem.W.Frag} {H0 : Hp} {ρ : Rho} {σ : L2.St} {G R H : Hp} (E : EnvR K H0 ρ σ G R H) {i : Nat} {xs : List PyData} {l : Addr} (hi : ρ[i]? = some (some (.own xs))) (hs : σ[i]? = some (some (.ref l))) :
    ∃ G2, EnvR K H0 (ρ.set i (some (.dat (.list xs)))) σ G2 R H ∧ Dd G2 (.ref l) (.list xs) ∧ Same G G2 ∧ (∀ b o, G2 b = some o → G b = none → H0 b = none) := by
  obtain ⟨G2, a, b, c, d, _⟩ := E.freezeX hi hs
  exact ⟨G2, a, b, c, d⟩
end Tee
namespace Oak
open PySem PySem.Spec PyProof.Rows L2
open Tee (Dd DdAll ScrL)
inductive T where
  | sh (d : PyData)
  | scr (ns : List Int)
  | lst (ts : List T)
  | tup (ts : List T)
  | dct (ks : List Key) (ts : List T)
  | ins (C : Addr) (ns : List Str) (ts : List T)
mutual
def qe0 (K : PySem.W.Frag) (G H : Hp) : T → V → (Addr → Prop) → Prop
  | .sh d, v, _ => Dd G v d
  | .scr ns, v, _ => ∃ a, v = .ref a ∧ ScrL K G a (ns.map V.int)
  | .lst ts, v, f => ∃ l vs g, v = .ref l ∧ H l = some (.lst vs) ∧ f l ∧ ¬ g l ∧ (∀ a, g a → f a) ∧ qc0 K G H ts vs g
  | .tup ts, v, f => ∃ l vs g, v = .ref l ∧ H l = some (.tup vs) ∧ f l ∧ ¬ g l ∧ (∀ a, g a → f a) ∧ qc0 K G H ts vs g
  | .dct ks ts, v, f => ∃ l vs g, v = .ref l ∧ ks.length = vs.length ∧ H l = some (.dK (ks.zip vs)) ∧ f l ∧ ¬ g l ∧ (∀ a, g a → f a) ∧ qc0 K G H ts vs g
  | .ins C ns ts, v, f => ∃ l dx vs g, v = .ref l ∧ ns.length = vs.length ∧ H l = some (.ins C dx (ns.zip vs)) ∧ H dx = some (.own l) ∧ l ≠ dx ∧ f l ∧ f dx ∧ ¬ g l ∧ ¬ g dx ∧ (∀ a, g a → f a) ∧ qc0 K G H ts vs g
def qc0 (K : PySem.W.Frag) (G H : Hp) : List T → List V → (Addr → Prop) → Prop
  | [], [], _ => True
  | t :: ts, v :: vs, f => ∃ f1 f2, qe0 K G H t v f1 ∧ qc0 K G H ts vs f2 ∧ (∀ a, f1 a → ¬ f2 a) ∧ (∀ a, f1 a → f a) ∧ (∀ a, f2 a → f a)
  | _, _, _ => False
end
section
variable {K : PySem.W.Frag} {G G' H H' : Hp}
mutual
theorem qe0.mono (sg : Same G G') : ∀ (t : T) (v : V) (f f' : Addr → Prop), (∀ a, f a → H' a = H a) → (∀ a, f a → f' a) → qe0 K G H t v f → qe0 K G' H' t v f'
  | .sh d, v, f, f', hh, hf, h => by
    unfold qe0 at h ⊢
    exact Dd.mono sg _ _ h
  | .scr ns, v, f, f', hh, hf, h => by
    unfold qe0 at h ⊢
    obtain ⟨a, e, z⟩ := h
    exact ⟨a, e, ScrL.mono sg z⟩
  | .lst ts, v, f, f', hh, hf, h => by
    unfold qe0 at h ⊢
    obtain ⟨l, vs, g, e, h1, h2, h3, h4, h5⟩ := h
    exact ⟨l, vs, g, e, by rw [hh l h2]; exact h1, hf l h2, h3, fun a q => hf a (h4 a q), qc0.mono sg ts vs g g (fun a q => hh a (h4 a q)) (fun _ q => q) h5⟩
  | .tup ts, v, f, f', hh, hf, h => by
    unfold qe0 at h ⊢
    obtain ⟨l, vs, g, e, h1, h2, h3, h4, h5⟩ := h
    exact ⟨l, vs, g, e, by rw [hh l h2]; exact h1, hf l h2, h3, fun a q => hf a (h4 a q), qc0.mono sg ts vs g g (fun a q => hh a (h4 a q)) (fun _ q => q) h5⟩
  | .dct ks ts, v, f, f', hh, hf, h => by
    unfold qe0 at h ⊢
    obtain ⟨l, vs, g, e, hl, h1, h2, h3, h4, h5⟩ := h
    exact ⟨l, vs, g, e, hl, by rw [hh l h2]; exact h1, hf l h2, h3, fun a q => hf a (h4 a q), qc0.mono sg ts vs g g (fun a q => hh a (h4 a q)) (fun _ q => q) h5⟩
  | .ins C ns ts, v, f, f', hh, hf, h => by
    unfold qe0 at h ⊢
    obtain ⟨l, dx, vs, g, e, hl, h1, h1', hn, h2, h2', h3, h3', h4, h5⟩ := h
    exact ⟨l, dx, vs, g, e, hl, by rw [hh l h2]; exact h1, by rw [hh dx h2']; exact h1', hn, hf l h2, hf dx h2', h3, h3', fun a q => hf a (h4 a q), qc0.mono sg ts vs g g (fun a q => hh a (h4 a q)) (fun _ q => q) h5⟩
theorem qc0.mono (sg : Same G G') : ∀ (ts : List T) (vs : List V) (f f' : Addr → Prop), (∀ a, f a → H' a = H a) → (∀ a, f a → f' a) → qc0 K G H ts vs f → qc0 K G' H' ts vs f'
  | [], [], f, f', hh, hf, h => by unfold qc0; trivial
  | t :: ts, v :: vs, f, f', hh, hf, h => by
    unfold qc0 at h ⊢
    obtain ⟨f1, f2, h1, h2, h3, h4, h5⟩ := h
    exact ⟨f1, f2, qe0.mono sg t v f1 f1 (fun a q => hh a (h4 a q)) (fun _ q => q) h1, qc0.mono sg ts vs f2 f2 (fun a q => hh a (h5 a q)) (fun _ q => q) h2, h3, fun a q => hf a (h4 a q), fun a q => hf a (h5 a q)⟩
  | [], _ :: _, f, f', hh, hf, h => by unfold qc0 at h; exact h.elim
  | _ :: _, [], f, f', hh, hf, h => by unfold qc0 at h; exact h.elim
end
theorem qc0.len : ∀ {ts : List T} {vs : List V} {f : Addr → Prop}, qc0 K G H ts vs f → ts.length = vs.length
  | [], [], _, _ => rfl
  | t :: ts, v :: vs, f, h => by
    unfold qc0 at h
    obtain ⟨f1, f2, h1, h2, _⟩ := h
    exact congrArg (· + 1) h2.len
  | [], _ :: _, _, h => by unfold qc0 at h; exact h.elim
  | _ :: _, [], _, h => by unfold qc0 at h; exact h.elim
mutual
def toD : T → Option PyData
  | .sh d => some d
  | .scr _ => none
  | .lst ts => (toDs ts).map .list
  | .tup ts => (toDs ts).map .tuple
  | .dct ks _ => if ks.isEmpty then some (.dict []) else none
  | .ins _ _ _ => none
def toDs : List T → Option (List PyData)
  | [] => some []
  | t :: ts => match toD t, toDs ts with
    | some d, some ds => some (d :: ds)
    | _, _ => none
end
noncomputable def joinF (G H : Hp) (f : Addr → Prop) : Hp := fun b => open Classical in if f b then H b else G b
theorem joinF_in {f : Addr → Prop} {b : Addr} (h : f b) : joinF G H f b = H b := if_pos h
theorem joinF_out {f : Addr → Prop} {b : Addr} (h : ¬ f b) : joinF G H f b = G b := if_neg h
theorem joinF_same {f : Addr → Prop} (h : ∀ a, f a → G a = none) : Same G (joinF G H f) := fun b u e => by rw [joinF_out fun q => by rw [h b q] at e; cases e]; exact e
mutual
theorem qe0.dd {G2 : Hp} (sg : Same G G2) : ∀ (t : T) (v : V) (f : Addr → Prop) (d : PyData), toD t = some d → (∀ a, f a → G2 a = H a) → qe0 K G H t v f → Dd G2 v d
  | .sh d', v, f, d, e, hh, h => by
    unfold qe0 at h
    cases (show some d' = some d from e)
    exact Dd.mono sg _ _ h
  | .scr _, v, f, d, e, hh, h => by cases (show none = some d from e)
  | .lst ts, v, f, d, e, hh, h => by
    unfold qe0 at h
    obtain ⟨l, vs, g, rfl, h1, h2, h3, h4, h5⟩ := h
    unfold toD at e
    cases q : toDs ts with
    | none => rw [q] at e; cases e
    | some ds =>
      rw [q] at e
      cases e
      exact .lst (by rw [hh l h2]; exact h1) (qc0.dd sg ts vs g ds q (fun a q => hh a (h4 a q)) h5)
  | .tup ts, v, f, d, e, hh, h => by
    unfold qe0 at h
    obtain ⟨l, vs, g, rfl, h1, h2, h3, h4, h5⟩ := h
    unfold toD at e
    cases q : toDs ts with
    | none => rw [q] at e; cases e
    | some ds =>
      rw [q] at e
      cases e
      exact .tup (by rw [hh l h2]; exact h1) (qc0.dd sg ts vs g ds q (fun a q => hh a (h4 a q)) h5)
  | .dct ks ts, v, f, d, e, hh, h => by
    unfold qe0 at h
    obtain ⟨l, vs, g, rfl, hl, h1, h2, h3, h4, h5⟩ := h
    unfold toD at e
    cases ks with
    | nil =>
      cases e
      exact .dct0 (by rw [hh l h2]; exact h1)
    | cons k ks => cases e
  | .ins _ _ _, v, f, d, e, hh, h => by cases (show none = some d from e)
theorem qc0.dd {G2 : Hp} (sg : Same G G2) : ∀ (ts : List T) (vs : List V) (f : Addr → Prop) (ds : List PyData), toDs ts = some ds → (∀ a, f a → G2 a = H a) → qc0 K G H ts vs f → DdAll G2 vs ds
  | [], [], f, ds, e, hh, h => by cases e; exact .nil
  | t :: ts, v :: vs, f, ds, e, hh, h => by
    unfold qc0 at h
    obtain ⟨f1, f2, h1, h2, h3, h4, h5⟩ := h
    unfold toDs at e
    cases q1 : toD t with
    | none => rw [q1] at e; cases e
    | some d =>
      cases q2 : toDs ts with
      | none => rw [q1, q2] at e; cases e
      | some ds' =>
        rw [q1, q2] at e
        cases e
        exact .cons (qe0.dd sg t v f1 d q1 (fun a q => hh a (h4 a q)) h1) (qc0.dd sg ts vs f2 ds' q2 (fun a q => hh a (h5 a q)) h2)
  | [], _ :: _, f, ds, e, hh, h => by unfold qc0 at h; exact h.elim
  | _ :: _, [], f, ds, e, hh, h => by unfold qc0 at h; exact h.elim
end
theorem toDs_sh : ∀ ds : List PyData, toDs (ds.map .sh) = some ds
  | [] => rfl
  | d :: ds => by
    show (match some d, toDs (ds.map .sh) with
      | some d, some ds => some (d :: ds)
      | _, _ => none) = _
    rw [toDs_sh ds]
abbrev Cell := T × V
abbrev Cells (K : PySem.W.Frag) (G H : Hp) (cs : List Cell) (f : Addr → Prop) : Prop := qc0 K G H (cs.map Prod.fst) (cs.map Prod.snd) f
theorem Cells.nil {f : Addr → Prop} : Cells K G H [] f := by unfold Cells qc0; trivial
theorem Cells.cons_iff {c : Cell} {cs : List Cell} {f : Addr → Prop} : Cells K G H (c :: cs) f ↔ ∃ f1 f2, qe0 K G H c.1 c.2 f1 ∧ Cells K G H cs f2 ∧ (∀ a, f1 a → ¬ f2 a) ∧ (∀ a, f1 a → f a) ∧ (∀ a, f2 a → f a) := by
  show qc0 K G H (c.1 :: cs.map Prod.fst) (c.2 :: cs.map Prod.snd) f ↔ _
  rw [qc0]
theorem Cells.mono {cs : List Cell} {f f' : Addr → Prop} (sg : Same G G') (hh : ∀ a, f a → H' a = H a) (hf : ∀ a, f a → f' a) (h : Cells K G H cs f) : Cells K G' H' cs f' := qc0.mono sg _ _ _ _ hh hf h
theorem Cells.wide {cs : List Cell} {f f' : Addr → Prop} (hf : ∀ a, f a → f' a) (h : Cells K G H cs f) : Cells K G H cs f' := Cells.mono (Same.refl G) (fun _ _ => rfl) hf h
theorem Cells.of_trees {ts : List T} {vs : List V} {f : Addr → Prop} (h : qc0 K G H ts vs f) : Cells K G H (ts.zip vs) f := by
  unfold Cells
  rw [List.map_fst_zip (by rw [h.len]; exact Nat.le_refl _), List.map_snd_zip (by rw [h.len]; exact Nat.le_refl _)]
  exact h
theorem Cells.to_trees {ts : List T} {vs : List V} {f : Addr → Prop} (hl : ts.length = vs.length) (h : Cells K G H (ts.zip vs) f) : qc0 K G H ts vs f := by
  unfold Cells at h
  rwa [List.map_fst_zip (by rw [hl]; exact Nat.le_refl _), List.map_snd_zip (by rw [hl]; exact Nat.le_refl _)] at h
theorem Cells.tail {c : Cell} {cs : List Cell} {f : Addr → Prop} (h : Cells K G H (c :: cs) f) : Cells K G H cs f := by
  obtain ⟨f1, f2, h1, h2, h3, h4, h5⟩ := Cells.cons_iff.mp h
  exact h2.wide h5
theorem Cells.app : ∀ {cs ds : List Cell} {f1 f2 f : Addr → Prop}, Cells K G H cs f1 → Cells K G H ds f2 → (∀ a, f1 a → ¬ f2 a) → (∀ a, f1 a → f a) → (∀ a, f2 a → f a) → Cells K G H (cs ++ ds) f
  | [], ds, f1, f2, f, h1, h2, d, s1, s2 => h2.wide s2
  | c :: cs, ds, f1, f2, f, h1, h2, d, s1, s2 => by
    obtain ⟨g1, g2, k1, k2, k3, k4, k5⟩ := Cells.cons_iff.mp h1
    refine Cells.cons_iff.mpr ⟨g1, fun a => g2 a ∨ f2 a, k1, Cells.app k2 h2 (fun a q => d a (k5 a q)) (fun a q => .inl q) (fun a q => .inr q), fun a q z => z.elim (k3 a q) (d a (k4 a q)), fun a q => s1 a (k4 a q), fun a q => q.elim (fun z => s1 a (k5 a z)) (s2 a)⟩
theorem Cells.split : ∀ {cs ds : List Cell} {f : Addr → Prop}, Cells K G H (cs ++ ds) f → ∃ f1 f2, Cells K G H cs f1 ∧ Cells K G H ds f2 ∧ (∀ a, f1 a → ¬ f2 a) ∧ (∀ a, f1 a → f a) ∧ (∀ a, f2 a → f a)
  | [], ds, f, h => ⟨fun _ => False, f, Cells.nil, h, fun a q => q.elim, fun a q => q.elim, fun a q => q⟩
  | c :: cs, ds, f, h => by
    obtain ⟨g1, g2, k1, k2, k3, k4, k5⟩ := Cells.cons_iff.mp (show Cells K G H (c :: (cs ++ ds)) f from h)
    obtain ⟨f1, f2, h1, h2, h3, h4, h5⟩ := Cells.split k2
    exact ⟨fun a => g1 a ∨ f1 a, f2, Cells.cons_iff.mpr ⟨g1, f1, k1, h1, fun a q z => k3 a q (h4 a z), fun a q => .inl q, fun a q => .inr q⟩, h2, fun a q z => q.elim (fun y => k3 a y (h5 a z)) (fun y => h3 a y z), fun a q => q.elim (k4 a) (fun y => k5 a (h4 a y)), fun a q => k5 a (h5 a q)⟩
theorem Cells.perm {cs cs' : List Cell} (p : cs.Perm cs') : ∀ {f : Addr → Prop}, Cells K G H cs f → Cells K G H cs' f := by
  induction p with
  | nil => exact fun h => h
  | cons c p ih =>
    intro f h
    obtain ⟨f1, f2, h1, h2, h3⟩ := Cells.cons_iff.mp h
    exact Cells.cons_iff.mpr ⟨f1, f2, h1, ih h2, h3⟩
  | swap c d cs =>
    intro f h
    obtain ⟨f1, f2, h1, h2, h3, h4, h5⟩ := Cells.cons_iff.mp h
    obtain ⟨g1, g2, k1, k2, k3, k4, k5⟩ := Cells.cons_iff.mp h2
    exact Cells.cons_iff.mpr ⟨g1, fun a => f1 a ∨ g2 a, k1, Cells.cons_iff.mpr ⟨f1, g2, h1, k2, fun a q z => h3 a q (k5 a z), fun a q => .inl q, fun a q => .inr q⟩,
      fun a q z => z.elim (fun y => h3 a y (k4 a q)) (k3 a q), fun a q => h5 a (k4 a q), fun a q => q.elim (h4 a) (fun y => h5 a (k5 a y))⟩
  | trans p q ih1 ih2 => exact fun h => ih2 (ih1 h)
abbrev Rho := List (Option T)
def slots : Rho → L2.St → List Cell
  | some t :: ρ, some v :: σ => (t, v) :: slots ρ σ
  | _ :: ρ, _ :: σ => slots ρ σ
  | _, _ => []
theorem slots_take : ∀ {ρ : Rho} {σ : L2.St} {i : Nat} {t : T} {v : V}, ρ[i]? = some (some t) → σ[i]? = some (some v) → (slots ρ σ).Perm ((t, v) :: slots (ρ.set i none) σ)
  | [], _, i, t, v, h, _ => by simp at h
  | _ :: _, [], i, t, v, _, h => by simp at h
  | q :: ρ, x :: σ, 0, t, v, h1, h2 => by
    cases h1
    cases h2
    exact List.Perm.refl _
  | q :: ρ, x :: σ, i + 1, t, v, h1, h2 => by
    have ih := slots_take (ρ := ρ) (σ := σ) (i := i) (t := t) (v := v) (by simpa using h1) (by simpa using h2)
    cases q with
    | none => exact ih
    | some u =>
      cases x with
      | none => exact ih
      | some y => exact (ih.cons _).trans (List.Perm.swap _ _ _)
theorem slots_set : ∀ {ρ : Rho} {σ : L2.St} {i : Nat} {x : Option V}, slots (ρ.set i none) (σ.set i x) = slots (ρ.set i none) σ
  | [], _, i, x => by cases i <;> rfl
  | q :: ρ, [], i, x => by cases i <;> rfl
  | q :: ρ, y :: σ, 0, x => by
    show slots (none :: ρ) (x :: σ) = slots (none :: ρ) (y :: σ)
    rfl
  | q :: ρ, y :: σ, i + 1, x => by
    have ih := slots_set (ρ := ρ) (σ := σ) (i := i) (x := x)
    show slots (q :: ρ.set i none) (y :: σ.set i x) = slots (q :: ρ.set i none) (y :: σ)
    cases q with
    | none => exact ih
    | some u =>
      cases y with
      | none => exact ih
      | some z => exact congrArg ((u, z) :: ·) ih
theorem slots_put {ρ : Rho} {σ : L2.St} {i : Nat} {t : T} {v : V} (hl : ρ.length = σ.length) (hi : i < ρ.length) : (slots (ρ.set i (some t)) (σ.set i (some v))).Perm ((t, v) :: slots (ρ.set i none) σ) := by
  have h := slots_take (ρ := ρ.set i (some t)) (σ := σ.set i (some v)) (i := i) (t := t) (v := v) (List.getElem?_set_self hi) (List.getElem?_set_self (hl ▸ hi))
  rw [List.set_set, slots_set] at h
  exact h
theorem slots_back {ρ : Rho} {σ : L2.St} {i : Nat} {t : T} {v : V} (hi : i < ρ.length) (hs : σ[i]? = some (some v)) : (slots (ρ.set i (some t)) σ).Perm ((t, v) :: slots (ρ.set i none) σ) := by
  have h := slots_take (ρ := ρ.set i (some t)) (σ := σ) (i := i) (t := t) (v := v) (List.getElem?_set_self hi) hs
  rw [List.set_set] at h
  exact h
theorem slots_drop : ∀ {ρ : Rho} {σ : L2.St} {i : Nat}, ∃ cs, (slots ρ σ).Perm (cs ++ slots (ρ.set i none) σ)
  | [], _, i => ⟨[], by cases i <;> exact List.Perm.refl _⟩
  | q :: ρ, [], i => ⟨[], by cases i <;> exact (by cases q <;> exact List.Perm.refl _)⟩
  | q :: ρ, y :: σ, 0 => by
    cases q with
    | none => exact ⟨[], List.Perm.refl _⟩
    | some u =>
      cases y with
      | none => exact ⟨[], List.Perm.refl _⟩
      | some z => exact ⟨[(u, z)], List.Perm.refl _⟩
  | q :: ρ, y :: σ, i + 1 => by
    obtain ⟨cs, ih⟩ := slots_drop (ρ := ρ) (σ := σ) (i := i)
    cases q with
    | none => exact ⟨cs, ih⟩
    | some u =>
      cases y with
      | none => exact ⟨cs, ih⟩
      | some z => exact ⟨cs, (ih.cons _).trans List.perm_middle.symm⟩
structure Base where
  G0 : Hp
  H0 : Hp
  bor : Addr → Prop
  fx : List (Nat × V)
  n : Nat
structure Mine (B : Base) (G H : Hp) (a : Addr) : Prop where
  ng : G a = none
  ex : ∃ u, H a = some u
  rg : B.H0 a = none ∨ B.bor a
structure EnvR (K : PySem.W.Frag) (B : Base) (ρ : Rho) (σ : L2.St) (τ : List Cell) (rs : List Addr) (G H : Hp) : Prop where
  sm : Same G H
  ln : ρ.length = σ.length ∧ σ.length = B.n
  all : ∀ (i : Nat) (t : T), ρ[i]? = some (some t) → ∃ v, σ[i]? = some (some v)
  own : ∃ f, Cells K G H (slots ρ σ ++ τ) f ∧ (∀ a, f a → Mine B G H a) ∧ ∀ a ∈ rs, ¬ f a
  rs : ∀ a ∈ rs, Mine B G H a
  keep : ∀ b o, ¬ B.bor b → B.H0 b = some o → H b = some o
  dom : ∀ b o, B.H0 b = some o → ∃ u, H b = some u
  gg : Same B.G0 G
  gnew : ∀ b o, G b = some o → B.G0 b = none → B.H0 b = none ∨ B.bor b
  fx : ∀ (i : Nat) (v : V), (i, v) ∈ B.fx → σ[i]? = some (some v)
variable {B : Base} {ρ : Rho} {σ : L2.St} {τ : List Cell} {rs : List Addr} {t : T} {v : V} {i : Nat}
theorem EnvR.len (E : EnvR K B ρ σ τ rs G H) : ρ.length = σ.length := E.ln.1
theorem EnvR.permT {τ' : List Cell} (E : EnvR K B ρ σ τ rs G H) (p : τ.Perm τ') : EnvR K B ρ σ τ' rs G H :=
  let ⟨f, h1, h2⟩ := E.own
  ⟨E.sm, E.ln, E.all, ⟨f, h1.perm (p.append_left _), h2⟩, E.rs, E.keep, E.dom, E.gg, E.gnew, E.fx⟩
theorem EnvR.take (E : EnvR K B ρ σ τ rs G H) (h : ρ[i]? = some (some t)) : ∃ v, σ[i]? = some (some v) ∧ EnvR K B (ρ.set i none) σ ((t, v) :: τ) rs G H := by
  obtain ⟨v, hv⟩ := E.all i t h
  obtain ⟨f, h1, h2⟩ := E.own
  refine ⟨v, hv, E.sm, by rw [List.length_set]; exact E.ln, fun j u hj => ?_, ⟨f, h1.perm ?_, h2⟩, E.rs, E.keep, E.dom, E.gg, E.gnew, E.fx⟩
  · by_cases q : i = j
    · subst q
      rw [List.getElem?_set_self (List.getElem?_eq_some_iff.mp h).1] at hj
      cases hj
    · rw [List.getElem?_set_ne q] at hj
      exact E.all j u hj
  · exact ((slots_take h hv).append_right _).trans List.perm_middle.symm
theorem EnvR.forget (E : EnvR K B ρ σ τ rs G H) (i : Nat) : EnvR K B (ρ.set i none) σ τ rs G H := by
  obtain ⟨f, h1, h2⟩ := E.own
  obtain ⟨cs, hp⟩ := slots_drop (ρ := ρ) (σ := σ) (i := i)
  have h3 := h1.perm (hp.append_right τ)
  rw [List.append_assoc] at h3
  obtain ⟨f1, f2, k1, k2, k3, k4, k5⟩ := Cells.split h3
  refine ⟨E.sm, by rw [List.length_set]; exact E.ln, fun j u hj => ?_, ⟨f, k2.wide k5, h2⟩, E.rs, E.keep, E.dom, E.gg, E.gnew, E.fx⟩
  by_cases q : i = j
  · subst q
    have hl := (List.getElem?_eq_some_iff.mp hj).1
    rw [List.length_set] at hl
    rw [List.getElem?_set_self hl] at hj
    cases hj
  · rw [List.getElem?_set_ne q] at hj
    exact E.all j u hj
theorem all_set (ha : ∀ (i : Nat) (t : T), ρ[i]? = some (some t) → ∃ v, σ[i]? = some (some v)) (hl : ρ.length = σ.length) : ∀ (j : Nat) (u : T), (ρ.set i (some t))[j]? = some (some u) → ∃ w, (σ.set i (some v))[j]? = some (some w) := fun j u hj => by
  by_cases q : i = j
  · subst q
    have hi := (List.getElem?_eq_some_iff.mp hj).1
    rw [List.length_set] at hi
    exact ⟨v, List.getElem?_set_self (hl ▸ hi)⟩
  · rw [List.getElem?_set_ne q] at hj ⊢
    exact ha j u hj
theorem EnvR.put (E : EnvR K B ρ σ ((t, v) :: τ) rs G H) (hf : ∀ w, (i, w) ∉ B.fx) : EnvR K B (ρ.set i (some t)) (σ.set i (some v)) τ rs G H := by
  by_cases hi : i < ρ.length
  · have E1 := E.forget i
    obtain ⟨f, h1, h2⟩ := E1.own
    refine ⟨E.sm, by rw [List.length_set, List.length_set]; exact E.ln, all_set E.all E.len, ⟨f, h1.perm ?_, h2⟩, E.rs, E.keep, E.dom, E.gg, E.gnew, fun j w hj => ?_⟩
    · exact List.perm_middle.trans (((slots_put E.len hi).append_right τ).symm)
    · by_cases q : i = j
      · subst q; exact absurd hj (hf w)
      · rw [List.getElem?_set_ne q]; exact E.fx j w hj
  · rw [List.set_eq_of_length_le (by omega), List.set_eq_of_length_le (by have := E.len; omega)]
    obtain ⟨f, h1, h2⟩ := E.own
    exact ⟨E.sm, E.ln, E.all, ⟨f, (h1.perm List.perm_middle).tail, h2⟩, E.rs, E.keep, E.dom, E.gg, E.gnew, E.fx⟩
theorem EnvR.back (E : EnvR K B ρ σ ((t, v) :: τ) rs G H) (hs : σ[i]? = some (some v)) : EnvR K B (ρ.set i (some t)) σ τ rs G H := by
  have hi : i < ρ.length := by rw [E.len]; exact (List.getElem?_eq_some_iff.mp hs).1
  have E1 := E.forget i
  obtain ⟨f, h1, h2⟩ := E1.own
  refine ⟨E.sm, by rw [List.length_set]; exact E.ln, fun j u hj => ?_, ⟨f, h1.perm ?_, h2⟩, E.rs, E.keep, E.dom, E.gg, E.gnew, E.fx⟩
  · by_cases q : i = j
    · subst q; exact ⟨v, hs⟩
    · rw [List.getElem?_set_ne q] at hj; exact E.all j u hj
  · exact List.perm_middle.trans (((slots_back hi hs).append_right τ).symm)
theorem EnvR.dropT {c : Cell} (E : EnvR K B ρ σ (c :: τ) rs G H) : EnvR K B ρ σ τ rs G H :=
  let ⟨f, h1, h2⟩ := E.own
  ⟨E.sm, E.ln, E.all, ⟨f, (h1.perm List.perm_middle).tail, h2⟩, E.rs, E.keep, E.dom, E.gg, E.gnew, E.fx⟩
theorem EnvR.dropAll {cs : List Cell} : EnvR K B ρ σ (cs ++ τ) rs G H → EnvR K B ρ σ τ rs G H := by
  induction cs with
  | nil => exact fun h => h
  | cons c cs ih => exact fun h => ih h.dropT
theorem EnvR.head {c : Cell} (E : EnvR K B ρ σ (c :: τ) rs G H) : ∃ f1 f2, qe0 K G H c.1 c.2 f1 ∧ Cells K G H (slots ρ σ ++ τ) f2 ∧ (∀ a, f1 a → ¬ f2 a) ∧ (∀ a, f1 a ∨ f2 a → Mine B G H a) ∧ ∀ a ∈ rs, ¬ f1 a ∧ ¬ f2 a := by
  obtain ⟨f, h1, h2, h3⟩ := E.own
  obtain ⟨f1, f2, k1, k2, k3, k4, k5⟩ := Cells.cons_iff.mp (h1.perm List.perm_middle)
  exact ⟨f1, f2, k1, k2, k3, fun a q => q.elim (fun z => h2 a (k4 a z)) (fun z => h2 a (k5 a z)), fun a ha => ⟨fun z => h3 a ha (k4 a z), fun z => h3 a ha (k5 a z)⟩⟩
theorem EnvR.dd {d : PyData} (E : EnvR K B ρ σ ((.sh d, v) :: τ) rs G H) : Dd G v d := by
  obtain ⟨f1, f2, h, _⟩ := E.head
  unfold qe0 at h
  exact h
theorem EnvR.addSh {d : PyData} (E : EnvR K B ρ σ τ rs G H) (h : Dd G v d) : EnvR K B ρ σ ((.sh d, v) :: τ) rs G H := by
  obtain ⟨f, h1, h2, h3⟩ := E.own
  refine ⟨E.sm, E.ln, E.all, ⟨f, Cells.perm List.perm_middle.symm (Cells.cons_iff.mpr ⟨fun _ => False, f, by unfold qe0; exact h, h1, fun _ q => q.elim, fun _ q => q.elim, fun _ q => q⟩), h2, h3⟩, E.rs, E.keep, E.dom, E.gg, E.gnew, E.fx⟩
theorem joinF_mine {f : Addr → Prop} (hf : ∀ a, f a → Mine B G H a) (gnew : ∀ b o, G b = some o → B.G0 b = none → B.H0 b = none ∨ B.bor b) : ∀ b o, joinF G H f b = some o → B.G0 b = none → B.H0 b = none ∨ B.bor b := fun b o e n => by
  by_cases q : f b
  · exact (hf b q).rg
  · rw [joinF_out q] at e; exact gnew b o e n
theorem joinF_sub {f : Addr → Prop} (sm : Same G H) : Same (joinF G H f) H := fun b o e => by
  by_cases q : f b
  · rw [joinF_in q] at e; exact e
  · rw [joinF_out q] at e; exact sm b o e
theorem EnvR.freeze {d : PyData} (E : EnvR K B ρ σ ((t, v) :: τ) rs G H) (hd : toD t = some d) : ∃ G', Same G G' ∧ EnvR K B ρ σ ((.sh d, v) :: τ) rs G' H := by
  obtain ⟨f1, f2, h1, h2, h3, h4, h5⟩ := E.head
  have sg : Same G (joinF G H f1) := joinF_same fun a q => (h4 a (.inl q)).ng
  have dd : Dd (joinF G H f1) v d := qe0.dd sg t v f1 d hd (fun a q => joinF_in q) h1
  have mine : ∀ a, Mine B G H a → ¬ f1 a → Mine B (joinF G H f1) H a := fun a m q => ⟨by rw [joinF_out q]; exact m.ng, m.ex, m.rg⟩
  have E2 : EnvR K B ρ σ τ rs (joinF G H f1) H := ⟨joinF_sub E.sm, E.ln, E.all, ⟨f2, h2.mono sg (fun _ _ => rfl) (fun _ q => q), fun a q => mine a (h4 a (.inr q)) (fun z => h3 a z q), fun a ha => (h5 a ha).2⟩,
    fun a ha => mine a (E.rs a ha) (h5 a ha).1, E.keep, E.dom, fun b o e => sg b o (E.gg b o e), joinF_mine (fun a q => h4 a (.inl q)) E.gnew, E.fx⟩
  exact ⟨_, sg, E2.addSh dd⟩
end
end Oak
namespace Oak
open PySem PySem.Spec PyProof.Rows L2
open Tee (Dd DdAll ScrL)
section
variable {K : PySem.W.Frag} {G G' H H' : Hp} {B : Base} {ρ : Rho} {σ : L2.St} {τ : List Cell} {rs : List Addr} {t : T} {v : V} {i : Nat} {p l : Addr} {ts : List T} {vs : List V}
theorem Mine.upd {a : Addr} {o : HO} (h : Mine B G H a) : Mine B G (upd H p o) a := ⟨h.ng, by
  by_cases q : a = p
  · subst q; exact ⟨o, upd_same⟩
  · rw [upd_ne q]; exact h.ex, h.rg⟩
theorem EnvR.fresh {o : HO} (E : EnvR K B ρ σ τ rs G H) (hp : H p = none) : EnvR K B ρ σ τ (p :: rs) G (upd H p o) := by
  have h0 : B.H0 p = none := by
    cases q : B.H0 p with
    | none => rfl
    | some u => obtain ⟨w, z⟩ := E.dom p u q; rw [hp] at z; cases z
  have hg : G p = none := by
    cases q : G p with
    | none => rfl
    | some u => have := E.sm p u q; rw [hp] at this; cases this
  have np : ∀ b u, H b = some u → b ≠ p := fun b u e => ne_of_none e hp
  obtain ⟨f, h1, h2, h3⟩ := E.own
  refine ⟨fun b u e => by rw [upd_ne (np b u (E.sm b u e))]; exact E.sm b u e, E.ln, E.all, ⟨f, h1.mono (Same.refl G) (fun a q => upd_ne (let ⟨u, z⟩ := (h2 a q).ex; np a u z)) (fun _ q => q), fun a q => (h2 a q).upd, fun a ha q => ?_⟩, fun a ha => ?_, fun b u n e => by rw [upd_ne (np b u (E.keep b u n e))]; exact E.keep b u n e, fun b u e => ?_, E.gg, E.gnew, E.fx⟩
  · rcases List.mem_cons.mp ha with rfl | ha
    · obtain ⟨u, z⟩ := (h2 a q).ex
      rw [hp] at z; cases z
    · exact h3 a ha q
  · rcases List.mem_cons.mp ha with rfl | ha
    · exact ⟨hg, ⟨o, upd_same⟩, .inl h0⟩
    · exact (E.rs a ha).upd
  · obtain ⟨w, z⟩ := E.dom b u e
    exact ⟨w, by rw [upd_ne (np b w z)]; exact z⟩
theorem EnvR.write {o : HO} (E : EnvR K B ρ σ τ rs G H) (hl : l ∈ rs) : EnvR K B ρ σ τ rs G (upd H l o) := by
  have m := E.rs l hl
  have ng : ∀ b u, G b = some u → b ≠ l := fun b u e => ne_of_none e m.ng
  obtain ⟨f, h1, h2, h3⟩ := E.own
  refine ⟨fun b u e => by rw [upd_ne (ng b u e)]; exact E.sm b u e, E.ln, E.all, ⟨f, h1.mono (Same.refl G) (fun a q => upd_ne fun z => h3 l hl (z ▸ q)) (fun _ q => q), fun a q => (h2 a q).upd, h3⟩, fun a ha => (E.rs a ha).upd, fun b u n e => ?_, fun b u e => ?_, E.gg, E.gnew, E.fx⟩
  · have : b ≠ l := fun q => by
      subst q
      rcases m.rg with z | z
      · rw [e] at z; cases z
      · exact n z
    rw [upd_ne this]
    exact E.keep b u n e
  · by_cases q : b = l
    · subst q; exact ⟨o, upd_same⟩
    · obtain ⟨w, z⟩ := E.dom b u e
      exact ⟨w, by rw [upd_ne q]; exact z⟩
theorem cells_of_trees {f1 f2 f : Addr → Prop} {cs : List Cell} (h : qc0 K G H ts vs f1) (h2 : Cells K G H cs f2) (d : ∀ a, f1 a → ¬ f2 a) (s1 : ∀ a, f1 a → f a) (s2 : ∀ a, f2 a → f a) : Cells K G H (ts.zip vs ++ cs) f := (Cells.of_trees h).app h2 d s1 s2
theorem perm_mid {α : Type} (a b c : List α) : (a ++ (b ++ c)).Perm (b ++ (a ++ c)) := by
  rw [← List.append_assoc, ← List.append_assoc]
  exact List.perm_append_comm.append_right c
theorem EnvR.openL (E : EnvR K B ρ σ ((.lst ts, v) :: τ) rs G H) : ∃ l vs, v = .ref l ∧ H l = some (.lst vs) ∧ ts.length = vs.length ∧ l ∉ rs ∧ EnvR K B ρ σ (ts.zip vs ++ τ) (l :: rs) G H := by
  obtain ⟨f1, f2, h1, h2, h3, h4, h5⟩ := E.head
  unfold qe0 at h1
  obtain ⟨l, vs, g, e, k1, k2, k3, k4, k5⟩ := h1
  refine ⟨l, vs, e, k1, k5.len, fun z => (h5 l z).1 k2, E.sm, E.ln, E.all, ⟨fun a => g a ∨ f2 a, Cells.perm (perm_mid _ _ _) (cells_of_trees k5 h2 (fun a q => h3 a (k4 a q)) (fun a q => .inl q) (fun a q => .inr q)), fun a q => h4 a (q.imp_left (k4 a)), fun a ha q => ?_⟩, fun a ha => ?_, E.keep, E.dom, E.gg, E.gnew, E.fx⟩
  · rcases List.mem_cons.mp ha with rfl | ha
    · exact q.elim k3 (h3 a k2)
    · exact q.elim (fun z => (h5 a ha).1 (k4 a z)) (h5 a ha).2
  · rcases List.mem_cons.mp ha with rfl | ha
    · exact h4 a (.inl k2)
    · exact E.rs a ha
theorem EnvR.openD {ks : List Key} (E : EnvR K B ρ σ ((.dct ks ts, v) :: τ) rs G H) : ∃ l vs, v = .ref l ∧ H l = some (.dK (ks.zip vs)) ∧ ks.length = vs.length ∧ ts.length = vs.length ∧ l ∉ rs ∧ EnvR K B ρ σ (ts.zip vs ++ τ) (l :: rs) G H := by
  obtain ⟨f1, f2, h1, h2, h3, h4, h5⟩ := E.head
  unfold qe0 at h1
  obtain ⟨l, vs, g, e, kl, k1, k2, k3, k4, k5⟩ := h1
  refine ⟨l, vs, e, k1, kl, k5.len, fun z => (h5 l z).1 k2, E.sm, E.ln, E.all, ⟨fun a => g a ∨ f2 a, Cells.perm (perm_mid _ _ _) (cells_of_trees k5 h2 (fun a q => h3 a (k4 a q)) (fun a q => .inl q) (fun a q => .inr q)), fun a q => h4 a (q.imp_left (k4 a)), fun a ha q => ?_⟩, fun a ha => ?_, E.keep, E.dom, E.gg, E.gnew, E.fx⟩
  · rcases List.mem_cons.mp ha with rfl | ha
    · exact q.elim k3 (h3 a k2)
    · exact q.elim (fun z => (h5 a ha).1 (k4 a z)) (h5 a ha).2
  · rcases List.mem_cons.mp ha with rfl | ha
    · exact h4 a (.inl k2)
    · exact E.rs a ha
theorem EnvR.shut {o : List Addr} (E : EnvR K B ρ σ (ts.zip vs ++ τ) (o ++ rs) G H) (hl : ts.length = vs.length) (nd : ∀ a ∈ o, a ∉ rs)
    (h : ∀ g f : Addr → Prop, qc0 K G H ts vs g → (∀ a, g a → f a) → (∀ a ∈ o, f a ∧ ¬ g a) → qe0 K G H t v f) : EnvR K B ρ σ ((t, v) :: τ) rs G H := by
  obtain ⟨f, h1, h2, h3⟩ := E.own
  obtain ⟨f1, f2, k1, k2, k3, k4, k5⟩ := Cells.split (h1.perm (perm_mid _ _ _))
  refine ⟨E.sm, E.ln, E.all, ⟨fun a => f1 a ∨ f2 a ∨ a ∈ o, ?_, fun a q => ?_, fun a ha q => ?_⟩, fun a ha => E.rs a (List.mem_append_right _ ha), E.keep, E.dom, E.gg, E.gnew, E.fx⟩
  · refine Cells.perm List.perm_middle.symm (Cells.cons_iff.mpr ⟨fun a => f1 a ∨ a ∈ o, f2, h f1 _ (k1.to_trees hl) (fun a q => .inl q) (fun a ha => ⟨.inr ha, fun z => h3 a (List.mem_append_left _ ha) (k4 a z)⟩), k2, fun a q z => q.elim (fun y => k3 a y z) (fun y => h3 a (List.mem_append_left _ y) (k5 a z)), fun a q => q.elim .inl fun z => .inr (.inr z), fun a q => .inr (.inl q)⟩)
  · rcases q with q | q | q
    · exact h2 a (k4 a q)
    · exact h2 a (k5 a q)
    · exact E.rs a (List.mem_append_left _ q)
  · rcases q with q | q | q
    · exact h3 a (List.mem_append_right _ ha) (k4 a q)
    · exact h3 a (List.mem_append_right _ ha) (k5 a q)
    · exact nd a q ha
theorem EnvR.closeL (E : EnvR K B ρ σ (ts.zip vs ++ τ) (l :: rs) G H) (hl : ts.length = vs.length) (nd : l ∉ rs) (h : H l = some (.lst vs)) : EnvR K B ρ σ ((.lst ts, .ref l) :: τ) rs G H :=
  EnvR.shut (o := [l]) E hl (fun a ha => by rw [List.mem_singleton.mp ha]; exact nd) fun g f k1 k2 k3 => by
    unfold qe0
    exact ⟨l, vs, g, rfl, h, (k3 l (by simp)).1, (k3 l (by simp)).2, k2, k1⟩
theorem EnvR.closeT (E : EnvR K B ρ σ (ts.zip vs ++ τ) (l :: rs) G H) (hl : ts.length = vs.length) (nd : l ∉ rs) (h : H l = some (.tup vs)) : EnvR K B ρ σ ((.tup ts, .ref l) :: τ) rs G H :=
  EnvR.shut (o := [l]) E hl (fun a ha => by rw [List.mem_singleton.mp ha]; exact nd) fun g f k1 k2 k3 => by
    unfold qe0
    exact ⟨l, vs, g, rfl, h, (k3 l (by simp)).1, (k3 l (by simp)).2, k2, k1⟩
theorem EnvR.closeD {ks : List Key} (E : EnvR K B ρ σ (ts.zip vs ++ τ) (l :: rs) G H) (hk : ks.length = vs.length) (hl : ts.length = vs.length) (nd : l ∉ rs) (h : H l = some (.dK (ks.zip vs))) : EnvR K B ρ σ ((.dct ks ts, .ref l) :: τ) rs G H :=
  EnvR.shut (o := [l]) E hl (fun a ha => by rw [List.mem_singleton.mp ha]; exact nd) fun g f k1 k2 k3 => by
    unfold qe0
    exact ⟨l, vs, g, rfl, hk, h, (k3 l (by simp)).1, (k3 l (by simp)).2, k2, k1⟩
theorem EnvR.newL (E : EnvR K B ρ σ (ts.zip vs ++ τ) [] G H) (hl : ts.length = vs.length) (hp : H p = none) : EnvR K B ρ σ ((.lst ts, .ref p) :: τ) [] G (upd H p (.lst vs)) := (E.fresh hp).closeL hl (by simp) upd_same
theorem EnvR.newT (E : EnvR K B ρ σ (ts.zip vs ++ τ) [] G H) (hl : ts.length = vs.length) (hp : H p = none) : EnvR K B ρ σ ((.tup ts, .ref p) :: τ) [] G (upd H p (.tup vs)) := (E.fresh hp).closeT hl (by simp) upd_same
structure CallEnd (K : PySem.W.Frag) (G H : Hp) (fa : Addr → Prop) (rcs : List Cell) (G' H' : Hp) : Prop where
  sm : Same G' H'
  own : ∃ f, Cells K G' H' rcs f ∧ ∀ a, f a → G' a = none ∧ (∃ u, H' a = some u) ∧ (H a = none ∨ fa a)
  keep : ∀ b o, ¬ fa b → H b = some o → H' b = some o
  dom : ∀ b o, H b = some o → ∃ u, H' b = some u
  gg : Same G G'
  gnew : ∀ b o, G' b = some o → G b = none → H b = none ∨ fa b
structure Lent (K : PySem.W.Frag) (G H : Hp) (cs : List Cell) (fa : Addr → Prop) : Prop where
  sm : Same G H
  cl : Cells K G H cs fa
  ng : ∀ a, fa a → G a = none
  ex : ∀ a, fa a → ∃ u, H a = some u
theorem EnvR.call {cs : List Cell} (E : EnvR K B ρ σ (cs ++ τ) [] G H) : ∃ fa, Lent K G H cs fa ∧ ∀ G' H' rcs, CallEnd K G H fa rcs G' H' → EnvR K B ρ σ (rcs ++ τ) [] G' H' := by
  obtain ⟨f, h1, h2, _⟩ := E.own
  obtain ⟨fa, f2, k1, k2, k3, k4, k5⟩ := Cells.split (h1.perm (perm_mid _ _ _))
  refine ⟨fa, ⟨E.sm, k1, fun a q => (h2 a (k4 a q)).ng, fun a q => (h2 a (k4 a q)).ex⟩, fun G' H' rcs c => ?_⟩
  obtain ⟨f', c1, c2⟩ := c.own
  have ng2 : ∀ a, f2 a → G' a = none := fun a q => by
    cases z : G' a with
    | none => rfl
    | some u =>
      have m := h2 a (k5 a q)
      obtain ⟨w, y⟩ := m.ex
      rcases c.gnew a u z m.ng with x | x
      · rw [y] at x; cases x
      · exact absurd q (k3 a x)
  have kp2 : ∀ a, f2 a → H' a = H a := fun a q => by
    obtain ⟨w, y⟩ := (h2 a (k5 a q)).ex
    rw [y]
    exact c.keep a w (fun z => k3 a z q) y
  refine ⟨c.sm, E.ln, E.all, ⟨fun a => f' a ∨ f2 a, Cells.perm (perm_mid _ _ _) (Cells.app c1 (k2.mono c.gg kp2 fun _ q => q) (fun a q z => ?_) (fun a q => .inl q) fun a q => .inr q), fun a q => ?_, fun a ha => by cases ha⟩, fun a ha => (by cases ha), fun b o n e => ?_, fun b o e => ?_, fun b o e => c.gg b o (E.gg b o e), fun b o e n => ?_, E.fx⟩
  · obtain ⟨_, _, x⟩ := c2 a q
    rcases x with x | x
    · obtain ⟨w, y⟩ := (h2 a (k5 a z)).ex
      rw [y] at x; cases x
    · exact k3 a x z
  · rcases q with q | q
    · obtain ⟨x1, x2, x3⟩ := c2 a q
      refine ⟨x1, x2, ?_⟩
      rcases x3 with x | x
      · left
        cases z : B.H0 a with
        | none => rfl
        | some u => obtain ⟨w, y⟩ := E.dom a u z; rw [x] at y; cases y
      · exact (h2 a (k4 a x)).rg
    · have m := h2 a (k5 a q)
      exact ⟨ng2 a q, by rw [kp2 a q]; exact m.ex, m.rg⟩
  · have y := E.keep b o n e
    refine c.keep b o (fun z => ?_) y
    rcases (h2 b (k4 b z)).rg with x | x
    · rw [e] at x; cases x
    · exact n x
  · obtain ⟨w, y⟩ := E.dom b o e
    exact c.dom b w y
  · cases z : G b with
    | some u => exact E.gnew b u z n
    | none =>
      rcases c.gnew b o e z with x | x
      · left
        cases y : B.H0 b with
        | none => rfl
        | some u => obtain ⟨w, y⟩ := E.dom b u y; rw [x] at y; cases y
      · exact (h2 b (k4 b x)).rg
theorem EnvR.ends {cs : List Cell} (E : EnvR K B ρ σ (cs ++ τ) rs G H) : CallEnd K B.G0 B.H0 B.bor cs G H := by
  obtain ⟨f, h1, h2, _⟩ := E.own
  obtain ⟨f1, f2, k1, k2, k3, k4, k5⟩ := Cells.split (h1.perm (perm_mid _ _ _))
  exact ⟨E.sm, ⟨f1, k1, fun a q => ⟨(h2 a (k4 a q)).ng, (h2 a (k4 a q)).ex, (h2 a (k4 a q)).rg⟩⟩, E.keep, E.dom, E.gg, E.gnew⟩
end
end Oak
namespace Tee
open PySem PySem.Spec PyProof.Rows L2
structure Sta where
  P : Program
  w : World
  K : PySem.W.Frag
  mg : Str → Option Value
  base : Heap
  N : List Str
  sc : Scope
  fn : Str → Bool
  k : Nat
structure Fits (S : Sta) (X : Cx) : Prop where
  prog : X.prog = S.P
  w : X.w = S.w
  K : X.K = S.K
  mg : X.mg = S.mg
  base : X.base = S.base
  N : X.N = S.N
  sc : X.env.scope = S.sc
  fn : ∀ x, S.fn x = true → X.fn x = true
  calm : X.calm = true
  gd : X.A.guards = some []
  room : Room S.k X.A
  sys : SysAt X.base
  nd : X.N.Nodup
  own : PassesOwn (model X.prog X.w) X.A X.env X.xe
def tU (X : Cx) (e : Expr) : TE := fun σ H Q => ∀ pins s, Inv X pins σ H s → wpAny (model X.prog X.w) X.A (eval e X.env) (EP X pins σ Q) X.xe s
theorem pe_U {X : Cx} {e : Expr} : PE X e (tU X e) := ⟨fun pins s σ H Q I h => h pins s I⟩
def tUT (X : Cx) (e : Expr) : TT := fun σ H Q => ∀ pins s, Inv X pins σ H s → wpAny (model X.prog X.w) X.A (isTrue e X.env (eval e X.env)) (TP X pins σ Q) X.xe s
theorem pt_U {X : Cx} {e : Expr} : PT X e (tUT X e) := ⟨fun pins s σ H Q I h => h pins s I⟩
def tUW (X : Cx) (e : Expr) : TT := fun σ H Q => ∀ whole pins s, Inv X pins σ H s → wpAny (model X.prog X.w) X.A (isTrue e X.env whole) (TP X pins σ Q) X.xe s
theorem pw_U {X : Cx} {e : Expr} : PW X e (tUW X e) := ⟨fun whole pins s σ H Q I h => h whole pins s I⟩
def tUS (X : Cx) (st : List Stmt) : TS := fun D σ H => ∀ pins s, Inv X pins σ H s → wpAny (model X.prog X.w) X.A (execs st X.env) (SP X pins D) X.xe s
theorem pss_U {X : Cx} {st : List Stmt} : PSs X st (tUS X st) := ⟨fun pins s σ H D I h => h pins s I⟩
inductive Od (G R H : Hp) : V → PyData → Prop
  | dd {v : V} {d : PyData} (h : Dd G v d) : Od G R H v d
  | own {l : Addr} {vs : List V} {xs : List PyData} (h : H l = some (.lst vs)) (r : R l = none) (q : DdAll G vs xs) : Od G R H (.ref l) (.list xs)
theorem Od.step {G R H G2 R2 H2 : Hp} (s : Stp G R H G2 R2 H2) {v : V} {d : PyData} (h : Od G R H v d) : Od G2 R2 H2 v d := by
  cases h with
  | dd h => exact .dd (Dd.mono s.gg _ _ h)
  | own h r q =>
    refine .own (s.keep _ _ r h) ?_ (DdAll.mono s.gg _ _ q)
    cases q1 : R2 _ with
    | none => rfl
    | some u => have := s.rnew _ u q1 r; rw [h] at this; cases this
theorem Od.int {G R H : Hp} {v : V} {i : Int} (h : Od G R H v (.int i)) : v = .int i := by cases h with | dd h => cases h; rfl
theorem Od.bl {G R H : Hp} {v : V} {b : Bool} (h : Od G R H v (.bool b)) : v = .bl b := by cases h with | dd h => cases h; rfl
theorem Od.non {G R H : Hp} {v : V} (h : Od G R H v .none) : v = .non := by cases h with | dd h => cases h; rfl
theorem Od.str {G R H : Hp} {v : V} {x : Str} (h : Od G R H v (.str x)) : v = .str x := by cases h with | dd h => cases h; rfl
theorem Od.list {G R H : Hp} (w : Wd G R H) {v : V} {xs : List PyData} (h : Od G R H v (.list xs)) : ∃ l vs, v = .ref l ∧ H l = some (.lst vs) ∧ DdAll G vs xs ∧ R l = none := by
  cases h with
  | dd h =>
    cases h with
    | lst h r =>
      refine ⟨_, _, rfl, w.gh _ _ h, r, ?_⟩
      cases q : R _ with
      | none => rfl
      | some u => have := w.dis _ u q; rw [h] at this; cases this
  | own h r q => exact ⟨_, _, rfl, h, q, r⟩
theorem Od.tup {G R H : Hp} (w : Wd G R H) {v : V} {xs : List PyData} (h : Od G R H v (.tuple xs)) : ∃ l vs, v = .ref l ∧ H l = some (.tup vs) ∧ DdAll G vs xs ∧ Dd G v (.tuple xs) := by
  cases h with
  | dd h =>
    have h0 := h
    cases h with
    | tup h r => exact ⟨_, _, rfl, w.gh _ _ h, r, h0⟩
theorem DdAll.len {G : Hp} : ∀ {vs : List V} {ds : List PyData}, DdAll G vs ds → vs.length = ds.length
  | _, _, .nil => rfl
  | _, _, .cons _ t => congrArg (· + 1) (DdAll.len t)
theorem DdAll.get {G : Hp} : ∀ {vs : List V} {ds : List PyData} {i : Nat} {d : PyData}, DdAll G vs ds → ds[i]? = some d → ∃ v, vs[i]? = some v ∧ Dd G v d
  | _, _, _, _, .nil, e => by simp at e
  | _, _, 0, _, .cons h _, e => by cases e; exact ⟨_, rfl, h⟩
  | _, _, i + 1, _, .cons _ t, e => DdAll.get (i := i) t e
theorem DdAll.app {G : Hp} : ∀ {vs ws : List V} {ds es : List PyData}, DdAll G vs ds → DdAll G ws es → DdAll G (vs ++ ws) (ds ++ es)
  | _, _, _, _, .nil, q => q
  | _, _, _, _, .cons h t, q => .cons h (DdAll.app t q)
theorem DdAll.takeD {G : Hp} : ∀ (n : Nat) {vs : List V} {ds : List PyData}, DdAll G vs ds → DdAll G (vs.take n) (ds.take n)
  | 0, _, _, _ => .nil
  | _ + 1, _, _, .nil => .nil
  | n + 1, _, _, .cons h t => .cons h (DdAll.takeD n t)
theorem DdAll.dropD {G : Hp} : ∀ (n : Nat) {vs : List V} {ds : List PyData}, DdAll G vs ds → DdAll G (vs.drop n) (ds.drop n)
  | 0, _, _, q => q
  | _ + 1, _, _, .nil => .nil
  | n + 1, _, _, .cons _ t => DdAll.dropD n t
theorem DdAll.setD {G : Hp} {v : V} {d : PyData} (h : Dd G v d) : ∀ (i : Nat) {vs : List V} {ds : List PyData}, DdAll G vs ds → DdAll G (vs.set i v) (ds.set i d)
  | _, _, _, .nil => .nil
  | 0, _, _, .cons _ t => .cons h t
  | i + 1, _, _, .cons q t => .cons q (DdAll.setD h i t)
theorem DdAll.rep {G : Hp} {vs : List V} {ds : List PyData} (h : DdAll G vs ds) : ∀ (n : Nat), DdAll G (List.replicate n vs).flatten (List.replicate n ds).flatten
  | 0 => .nil
  | n + 1 => by
    show DdAll G (vs ++ (List.replicate n vs).flatten) (ds ++ (List.replicate n ds).flatten)
    exact h.app (DdAll.rep h n)
theorem DdAll.ints {G : Hp} : ∀ (ns : List Int), DdAll G (ns.map V.int) (ns.map PyData.int)
  | [] => .nil
  | n :: ns => .cons (.int n) (DdAll.ints ns)
theorem DdAll.intsV {G : Hp} : ∀ (ns : List Int) {vs : List V}, DdAll G vs (ns.map PyData.int) → vs = ns.map V.int
  | [], _, h => by cases h; rfl
  | n :: ns, _, h => by
    cases h with
    | cons h t =>
      cases h
      rw [DdAll.intsV ns t]
      rfl
def cutD (xs : List PyData) (lo hi : Option Int) : List PyData := (xs.drop (HT.sIx xs.length 0 lo)).take (HT.sIx xs.length xs.length hi - HT.sIx xs.length 0 lo)
theorem DdAll.cut {G : Hp} {vs : List V} {ds : List PyData} (h : DdAll G vs ds) (lo hi : Option Int) : DdAll G (cutV vs lo hi) (cutD ds lo hi) := by
  unfold cutV cutD
  rw [h.len]
  exact (h.dropD _).takeD _
theorem DdAll.ix {G : Hp} {vs : List V} {ds : List PyData} (h : DdAll G vs ds) {i : Int} {d : PyData} (e : atI ds i = some d) : ∃ v, atI vs i = some v ∧ Dd G v d := by
  unfold atI at e ⊢
  rw [h.len]
  cases q : ixN ds.length i with
  | none => rw [q] at e; cases e
  | some j => rw [q] at e; exact h.get e
abbrev KD (G R H : Hp) (Q : PyData → Prop) (QV : VK) : Prop := ∀ d v G2 R2 H2, Q d → Stp G R H G2 R2 H2 → Dd G2 v d → QV v H2
abbrev KO (G R H : Hp) (Q : PyData → Prop) (QV : VK) : Prop := ∀ d v G2 R2 H2, Q d → Stp G R H G2 R2 H2 → Od G2 R2 H2 v d → QV v H2
abbrev KB (G R H : Hp) (Q : Bool → Prop) (QV : Bool → Hp → Prop) : Prop := ∀ b G2 R2 H2, Q b → Stp G R H G2 R2 H2 → QV b H2
def ArgR (K : PySem.W.Frag) (G R : Hp) : V → SV → Prop
  | v, .dat d => Dd G v d
  | .ref r, .rel => ReelAt R r
  | .ref a, .scr ns => ScrL K G a (ns.map V.int)
  | _, _ => False
theorem ArgR.step {K : PySem.W.Frag} {G R H G2 R2 H2 : Hp} (s : Stp G R H G2 R2 H2) {v : V} {a : SV} (h : ArgR K G R v a) : ArgR K G2 R2 v a := by
  cases a with
  | dat d => exact Dd.mono s.gg _ _ h
  | obj o => cases v <;> exact h.elim
  | rel =>
    cases v with
    | ref r => exact s.rel _ h
    | _ => exact h
  | scr ns =>
    cases v with
    | ref r => exact ScrL.mono s.gg h
    | _ => exact h
abbrev ArgsR (K : PySem.W.Frag) (G R : Hp) : List V → List SV → Prop := Paired (ArgR K G R)
theorem ArgsR.step {K : PySem.W.Frag} {G R H G2 R2 H2 : Hp} (s : Stp G R H G2 R2 H2) {vs : List V} {as : List SV} (h : ArgsR K G R vs as) : ArgsR K G2 R2 vs as := Paired.mapP h fun _ _ q => q.step s
abbrev KA (K : PySem.W.Frag) (G R H : Hp) (Q : List SV → Prop) (QV : List V → Hp → Prop) : Prop := ∀ as vs G2 R2 H2, Q as → Stp G R H G2 R2 H2 → ArgsR K G2 R2 vs as → QV vs H2
def WE (S : Sta) (e : Expr) (ρ : Rho) (Q : PyData → Prop) : Prop :=
  ∀ X, Fits S X → ∀ H0 σ G R H, EnvR S.K H0 ρ σ G R H → ∀ QV : VK, KD G R H Q QV → tU X e σ H QV
def WO (S : Sta) (e : Expr) (ρ : Rho) (Q : PyData → Prop) : Prop :=
  ∀ X, Fits S X → ∀ H0 σ G R H, EnvR S.K H0 ρ σ G R H → ∀ QV : VK, KO G R H Q QV → tU X e σ H QV
def WT (S : Sta) (e : Expr) (ρ : Rho) (Q : Bool → Prop) : Prop :=
  ∀ X, Fits S X → ∀ H0 σ G R H, EnvR S.K H0 ρ σ G R H → ∀ QV : Bool → Hp → Prop, KB G R H Q QV → tUT X e σ H QV
def WW (S : Sta) (e : Expr) (ρ : Rho) (Q : Bool → Prop) : Prop :=
  ∀ X, Fits S X → ∀ H0 σ G R H, EnvR S.K H0 ρ σ G R H → ∀ QV : Bool → Hp → Prop, KB G R H Q QV → tUW X e σ H QV
def WG (S : Sta) (es : List Expr) (ρ : Rho) (Q : List SV → Prop) : Prop :=
  ∀ X, Fits S X → ∀ H0 σ G R H, EnvR S.K H0 ρ σ G R H → ∃ t, PA X es t ∧ ∀ QV : List V → Hp → Prop, KA S.K G R H Q QV → t σ H QV
section
variable {S : Sta} {ρ : Rho} {Q : PyData → Prop} {a b c e : Expr} {es : List Expr} {x : Str} {p pos : Pos}
theorem WE.mono {Q' : PyData → Prop} (h : WE S e ρ Q) (k : ∀ d, Q d → Q' d) : WE S e ρ Q' := fun X f H0 σ G R H E QV kq => h X f H0 σ G R H E QV fun d v G2 R2 H2 q => kq d v G2 R2 H2 (k d q)
theorem WO.mono {Q' : PyData → Prop} (h : WO S e ρ Q) (k : ∀ d, Q d → Q' d) : WO S e ρ Q' := fun X f H0 σ G R H E QV kq => h X f H0 σ G R H E QV fun d v G2 R2 H2 q => kq d v G2 R2 H2 (k d q)
theorem WT.mono {Q Q' : Bool → Prop} (h : WT S e ρ Q) (k : ∀ d, Q d → Q' d) : WT S e ρ Q' := fun X f H0 σ G R H E QV kq => h X f H0 σ G R H E QV fun d G2 R2 H2 q => kq d G2 R2 H2 (k d q)
theorem WE.by {X : Cx} {t : TE} (pe : PE X e t) {σ : L2.St} {H : Hp} {QV : VK} (h : t σ H QV) : tU X e σ H QV := fun pins s I => pe.run pins s σ H QV I h
theorem WT.by {X : Cx} {t : TT} (pe : PT X e t) {σ : L2.St} {H : Hp} {QV : Bool → Hp → Prop} (h : t σ H QV) : tUT X e σ H QV := fun pins s I => pe.run pins s σ H QV I h
theorem WW.by {X : Cx} {t : TT} (pe : PW X e t) {σ : L2.St} {H : Hp} {QV : Bool → Hp → Prop} (h : t σ H QV) : tUW X e σ H QV := fun wh pins s I => pe.run wh pins s σ H QV I h
theorem WO.of (h : WE S e ρ Q) : WO S e ρ Q := fun X f H0 σ G R H E QV kq => h X f H0 σ G R H E QV fun d v G2 R2 H2 q s dd => kq d v G2 R2 H2 q s (.dd dd)
end
end Tee
namespace Tee
open PySem PySem.Spec PyProof.Rows L2
theorem newL {G R H : Hp} {Q : PyData → Prop} {QV : VK} (w : Wd G R H) (kq : KD G R H Q QV) {p : Addr} (hp : H p = none) {vs : List V} {ds : List PyData} (r : DdAll G vs ds) (q : Q (.list ds)) : QV (.ref p) (upd H p (.lst vs)) := by
  have s := Stp.new (o := .lst vs) w hp
  exact kq _ _ _ _ _ q s (.lst upd_same (DdAll.mono s.gg _ _ r))
theorem newT {G R H : Hp} {Q : PyData → Prop} {QV : VK} (w : Wd G R H) (kq : KD G R H Q QV) {p : Addr} (hp : H p = none) {vs : List V} {ds : List PyData} (r : DdAll G vs ds) (q : Q (.tuple ds)) : QV (.ref p) (upd H p (.tup vs)) := by
  have s := Stp.new (o := .tup vs) w hp
  exact kq _ _ _ _ _ q s (.tup upd_same (DdAll.mono s.gg _ _ r))
theorem same {G R H : Hp} {Q : PyData → Prop} {QV : VK} (w : Wd G R H) (kq : KD G R H Q QV) {v : V} {d : PyData} (h : Dd G v d) (q : Q d) : QV v H := kq _ _ _ _ _ q (Stp.refl w) h
def PlusD : PyData → PyData → (PyData → Prop) → Prop
  | .int i, .int j, Q => Q (.int (i + j))
  | .list xs, .list ys, Q => xs.length + ys.length ≤ sizeLine ∧ Q (.list (xs ++ ys))
  | _, _, _ => False
def MinusD : PyData → PyData → (PyData → Prop) → Prop
  | .int i, .int j, Q => Q (.int (i - j))
  | _, _, _ => False
def TimesD : PyData → PyData → (PyData → Prop) → Prop
  | .int i, .int j, Q => CMulW i j ∧ Q (.int (i * j))
  | .list xs, .int k, Q => -(2 ^ 63) ≤ k ∧ k < 2 ^ 63 ∧ xs.length * k.toNat ≤ sizeLine ∧ Q (.list (List.replicate k.toNat xs).flatten)
  | .tuple xs, .int k, Q => xs ≠ [] ∧ 2 ≤ k ∧ k ≤ 1000 ∧ xs.length ≤ 1000 ∧ Q (.tuple (List.replicate k.toNat xs).flatten)
  | _, _, _ => False
def FdivD : PyData → PyData → (PyData → Prop) → Prop
  | .int i, .int j, Q => CDivW i j ∧ Q (.int (i / j))
  | _, _, _ => False
def ModD : PyData → PyData → (PyData → Prop) → Prop
  | .int i, .int j, Q => 0 < j ∧ Q (.int (i % j))
  | _, _, _ => False
def PowD : PyData → PyData → (PyData → Prop) → Prop
  | .int i, .int j, Q => CPow i j ∧ Q (.int (i ^ j.toNat))
  | _, _, _ => False
section
variable {S : Sta} {ρ : Rho} {Q : PyData → Prop} {a b c e : Expr} {es : List Expr} {x : Str} {p pos : Pos}
theorem two {X : Cx} (f : Fits S X) {H0 : Hp} {σ : L2.St} {G R H : Hp} (E : EnvR S.K H0 ρ σ G R H) {D : PyData → PyData → Prop} (h : WO S a ρ fun da => WO S b ρ fun db => D da db) {Z : V → V → Hp → Prop}
    (k : ∀ da db v u G2 R2 H2, D da db → Stp G R H G2 R2 H2 → Od G2 R2 H2 v da → Od G2 R2 H2 u db → Z v u H2) : tU X a σ H fun v H1 => tU X b σ H1 fun u H2 => Z v u H2 :=
  h X f H0 σ G R H E _ fun da v G2 R2 H2 hb s dd => hb X f H0 σ G2 R2 H2 (E.step s) _ fun db u G3 R3 H3 q s2 dd2 => k da db v u G3 R3 H3 q (s.trans s2) (dd.step s2) dd2
theorem Dd.dp {K : PySem.W.Frag} {G H : Hp} (e : Same G H) : ∀ (d : PyData) (v : V), d.canLay0 = true → Dd G v d → Dp K H v d := by
  have both : ∀ n : Nat, (∀ (d : PyData) (v : V), sizeOf d < n → d.canLay0 = true → Dd G v d → Dp K H v d) ∧ (∀ (ds : List PyData) (vs : List V), sizeOf ds < n → PyData.canLayAll0 ds = true → DdAll G vs ds → DpAll K H vs ds) := by
    intro n
    induction n with
    | zero => exact ⟨fun _ _ z => absurd z (Nat.not_lt_zero _), fun _ _ z => absurd z (Nat.not_lt_zero _)⟩
    | succ n ih =>
      refine ⟨fun d v z hc h => ?_, fun ds vs z hc h => ?_⟩
      · cases h with
        | non => exact .non
        | bl b => exact .bl b
        | int i => exact .int i
        | str x => exact .str x
        | lst h r =>
          refine .lst (SqL.of (e _ _ h)) (ih.2 _ _ ?_ (by simpa [PyData.canLay0] using hc) r)
          simp only [PyData.list.sizeOf_spec] at z
          omega
        | tup h r =>
          refine .tup (SqT.of (e _ _ h)) (ih.2 _ _ ?_ (by simpa [PyData.canLay0] using hc) r)
          simp only [PyData.tuple.sizeOf_spec] at z
          omega
        | dct0 h => simp [PyData.canLay0] at hc
        | dct1 h => simp [PyData.canLay0] at hc
      · cases h with
        | nil => exact .nil
        | @cons v vs d ds h t =>
          have hc' : d.canLay0 = true ∧ PyData.canLayAll0 ds = true := by simpa [PyData.canLayAll0] using hc
          simp only [List.cons.sizeOf_spec] at z
          exact .cons (ih.1 _ _ (by omega) hc'.1 h) (ih.2 _ _ (by omega) hc'.2 t)
  exact fun d v => (both (sizeOf d + 1)).1 d v (Nat.lt_succ_self _)
theorem DdAll.dp {K : PySem.W.Frag} {G H : Hp} (e : Same G H) : ∀ (ds : List PyData) (vs : List V), PyData.canLayAll0 ds = true → DdAll G vs ds → DpAll K H vs ds
  | [], _, _, h => by cases h; exact .nil
  | d :: ds, _, hc, h => by
    cases h with
    | cons h t =>
      have hc' : d.canLay0 = true ∧ PyData.canLayAll0 ds = true := by simpa [PyData.canLayAll0] using hc
      exact .cons (Dd.dp e _ _ hc'.1 h) (DdAll.dp e _ _ hc'.2 t)
theorem Od.dp {K : PySem.W.Frag} {G R H : Hp} (w : Wd G R H) {d : PyData} {v : V} (hc : d.canLay0 = true) (h : Od G R H v d) : Dp K H v d := by
  cases h with
  | dd h => exact Dd.dp w.gh _ _ hc h
  | own h r q => exact .lst (SqL.of h) (DdAll.dp w.gh _ _ (by simpa [PyData.canLay0] using hc) q)
theorem shaped_lay {d : PyData} (h : SeqAt.shaped d = true) : d.canLay0 = true := by
  unfold SeqAt.shaped at h
  exact (Bool.and_eq_true_iff.mp h).1
def isNone : PyData → Bool
  | .none => true
  | _ => false
def CmpD : CmpOp → PyData → PyData → (Bool → Prop) → Prop
  | .Eq, .str x, .str y, Q => Q (decide (x = y))
  | .NotEq, .str x, .str y, Q => Q (!decide (x = y))
  | .Eq, d, e, Q => SeqAt.shaped d = true ∧ SeqAt.shaped e = true ∧ Q (PyData.eqv d e)
  | .NotEq, d, e, Q => SeqAt.shaped d = true ∧ SeqAt.shaped e = true ∧ Q (!PyData.eqv d e)
  | .Lt, .int i, .int j, Q => Q (decide (i < j))
  | .LtE, .int i, .int j, Q => Q (decide (i ≤ j))
  | .Gt, .int i, .int j, Q => Q (decide (j < i))
  | .GtE, .int i, .int j, Q => Q (decide (j ≤ i))
  | .Is, .bool i, .bool j, Q => Q (decide (i = j))
  | .IsNot, .bool i, .bool j, Q => Q (!decide (i = j))
  | .Is, d, .none, Q => Q (isNone d)
  | .IsNot, d, .none, Q => Q (!isNone d)
  | _, _, _, _ => False
def rCmp (K : PySem.W.Frag) : CmpOp → R2
  | .Eq => fun x y H Q => rEqD K x y H Q ∨ rEq x y H Q
  | .NotEq => fun x y H Q => rNeD K x y H Q ∨ rNe x y H Q
  | .Lt => rI0 fun i j => .bl (decide (i < j))
  | .LtE => rI0 fun i j => .bl (decide (i ≤ j))
  | .Gt => rI0 fun i j => .bl (decide (j < i))
  | .GtE => rI0 fun i j => .bl (decide (j ≤ i))
  | .Is => fun x y H Q => rIsB x y H Q ∨ (y = .non ∧ Q (.bl (decide (x = .non))) H)
  | .IsNot => fun x y H Q => rNotB x y H Q ∨ (y = .non ∧ Q (.bl (!decide (x = .non))) H)
  | _ => fun _ _ _ _ => False
theorem opr_cmp {X : Cx} (hu : X.A.units + 64 < cLine) : ∀ op : CmpOp, OpR X (compareOp op) (rCmp X.K op)
  | .Eq => fun pins s σ H x y v u Q I rx ry h => h.elim (op_eqD hu pins s σ H x y v u Q I rx ry) (op_eq pins s σ H x y v u Q I rx ry)
  | .NotEq => fun pins s σ H x y v u Q I rx ry h => h.elim (op_neD hu pins s σ H x y v u Q I rx ry) (op_ne pins s σ H x y v u Q I rx ry)
  | .Lt => op_lt
  | .LtE => op_le
  | .Gt => op_gt
  | .GtE => op_ge
  | .Is => fun pins s σ H x y v u Q I rx ry h => h.elim (op_isBl pins s σ H x y v u Q I rx ry) (op_isN pins s σ H x y v u Q I rx ry)
  | .IsNot => fun pins s σ H x y v u Q I rx ry h => h.elim (op_notBl pins s σ H x y v u Q I rx ry) (op_notN pins s σ H x y v u Q I rx ry)
  | .In => fun _ _ _ _ _ _ _ _ _ _ _ _ h => h.elim
  | .NotIn => fun _ _ _ _ _ _ _ _ _ _ _ _ h => h.elim
theorem Dd.isNon {G : Hp} {v : V} {d : PyData} (h : Dd G v d) : decide (v = .non) = isNone d := by cases h <;> rfl
theorem Od.isNon {G R H : Hp} {v : V} {d : PyData} (h : Od G R H v d) : decide (v = .non) = isNone d := by
  cases h with
  | dd h => exact h.isNon
  | own h r q => rfl
theorem str_dec (x y : Str) : decide (V.str x = V.str y) = decide (x = y) := by
  by_cases h : x = y
  · rw [h, decide_eq_true rfl, decide_eq_true rfl]
  · rw [decide_eq_false h, decide_eq_false (fun z => h (V.str.inj z))]
theorem cmp_sound {K : PySem.W.Frag} {G R H : Hp} (w : Wd G R H) {op : CmpOp} {da db : PyData} {v u : V} {Q : Bool → Prop} {QV : VK} (o1 : Od G R H v da) (o2 : Od G R H u db) (q : CmpD op da db Q) (k : ∀ b, Q b → QV (.bl b) H) : rCmp K op v u H QV := by
  unfold CmpD at q
  split at q
  · refine .inr ⟨by rw [o1.str, o2.str]; rfl, ?_⟩
    rw [o1.str, o2.str, str_dec]
    exact k _ q
  · refine .inr ⟨by rw [o1.str, o2.str]; rfl, ?_⟩
    rw [o1.str, o2.str, str_dec]
    exact k _ q
  · exact .inl ⟨_, _, o1.dp w (shaped_lay q.1), o2.dp w (shaped_lay q.2.1), q.1, q.2.1, k _ q.2.2⟩
  · exact .inl ⟨_, _, o1.dp w (shaped_lay q.1), o2.dp w (shaped_lay q.2.1), q.1, q.2.1, k _ q.2.2⟩
  · exact ⟨_, _, o1.int, o2.int, k _ q⟩
  · exact ⟨_, _, o1.int, o2.int, k _ q⟩
  · exact ⟨_, _, o1.int, o2.int, k _ q⟩
  · exact ⟨_, _, o1.int, o2.int, k _ q⟩
  · exact .inl ⟨_, _, o1.bl, o2.bl, k _ q⟩
  · exact .inl ⟨_, _, o1.bl, o2.bl, k _ q⟩
  · exact .inr ⟨o2.non, by rw [o1.isNon]; exact k _ q⟩
  · exact .inr ⟨o2.non, by rw [o1.isNon]; exact k _ q⟩
  · exact q.elim
theorem wt_cmp {op : CmpOp} {Q : Bool → Prop} (h : WO S a ρ fun da => WO S b ρ fun db => CmpD op da db Q) (hm : behindInMarks op b = false := by rfl) : WT S (.Compare a [op] [b] pos) ρ Q := by
  intro X f H0 σ G R H E QV kq pins s I
  refine (pt_cmpR (opr_cmp f.room.units op) pe_U pe_U hm).run pins s σ H QV I (two f E h fun da db v u G2 R2 H2 q st o1 o2 => ?_)
  exact cmp_sound st.wd o1 o2 q fun k q => ⟨k, rfl, kq _ _ _ _ q st⟩
end
end Tee
namespace Tee
open PySem PySem.Spec PyProof.Rows L2
section
variable {S : Sta} {ρ : Rho} {Q : PyData → Prop} {a b c e : Expr} {es rest : List Expr} {x : Str} {p pos : Pos}
def TruD : PyData → (Bool → Prop) → Prop
  | .none, Q => Q false
  | .bool b, Q => Q b
  | .int i, Q => Q (i != 0)
  | .list xs, Q => Q (!xs.isEmpty)
  | .tuple xs, Q => Q (!xs.isEmpty)
  | _, _ => False
theorem DdAll.empty {G : Hp} {vs : List V} {ds : List PyData} (h : DdAll G vs ds) : vs.isEmpty = ds.isEmpty := by cases h <;> rfl
theorem wt_truth {Q : Bool → Prop} (h : WO S e ρ fun d => TruD d Q) (he : ∀ env whole, isTrue e env whole = (do let v ← whole; standAt e.pos; holding [v] (truthy v)) := by intro _ _; rfl) : WT S e ρ Q := by
  intro X f H0 σ G R H E QV kq
  refine WT.by (pt_truth pe_U (he _)) (h X f H0 σ G R H E _ fun d v G2 R2 H2 q st o => ?_)
  replace q : TruD d Q := q
  unfold TruD at q
  split at q
  · rw [o.non]; exact ⟨false, rfl, kq _ _ _ _ q st⟩
  · rw [o.bl]; exact ⟨_, rfl, kq _ _ _ _ q st⟩
  · rw [o.int]; exact ⟨_, rfl, kq _ _ _ _ q st⟩
  · obtain ⟨l, vs, rfl, h1, r, _⟩ := o.list st.wd
    exact ⟨_, .inl ⟨vs, SqL.of h1, rfl⟩, by rw [r.empty]; exact kq _ _ _ _ q st⟩
  · obtain ⟨l, vs, rfl, h1, r, _⟩ := o.tup st.wd
    exact ⟨_, .inr (.inl ⟨vs, SqT.of h1, rfl⟩), by rw [r.empty]; exact kq _ _ _ _ q st⟩
  · exact q.elim
theorem wt_not {Q : Bool → Prop} (h : WT S a ρ fun k => Q (!k)) : WT S (.UnaryOp .Not a pos) ρ Q := fun X f H0 σ G R H E QV kq =>
  WT.by (pt_not pt_U) (h X f H0 σ G R H E _ fun k G2 R2 H2 q st => kq _ _ _ _ q st)
theorem wt_bool {op : BoolOp} {Q : Bool → Prop} (h : WW S (.BoolOp op es pos) ρ Q) : WT S (.BoolOp op es pos) ρ Q := fun X f H0 σ G R H E QV kq => WT.by pw_U.pt (h X f H0 σ G R H E QV kq)
theorem ww_and1 {Q : Bool → Prop} (h : WT S a ρ Q) : WW S (.BoolOp .And [a] pos) ρ Q := fun X f H0 σ G R H E QV kq => WW.by (pw_and1 pt_U) (h X f H0 σ G R H E QV kq)
theorem ww_or1 {Q : Bool → Prop} (h : WT S a ρ Q) : WW S (.BoolOp .Or [a] pos) ρ Q := fun X f H0 σ G R H E QV kq => WW.by (pw_or1 pt_U) (h X f H0 σ G R H E QV kq)
theorem ww_and {Q : Bool → Prop} (h : WT S a ρ fun k => (k = true → WW S (.BoolOp .And (b :: rest) pos) ρ Q) ∧ (k = false → Q false)) : WW S (.BoolOp .And (a :: b :: rest) pos) ρ Q := fun X f H0 σ G R H E QV kq =>
  WW.by (pw_and pt_U pw_U) (h X f H0 σ G R H E _ fun k G2 R2 H2 q st => by
    cases k with
    | true =>
      rw [if_pos rfl]
      exact q.1 rfl X f H0 σ G2 R2 H2 (E.step st) QV fun d G3 R3 H3 q s3 => kq d G3 R3 H3 q (st.trans s3)
    | false =>
      rw [if_neg (by decide)]
      exact kq _ _ _ _ (q.2 rfl) st)
theorem ww_or {Q : Bool → Prop} (h : WT S a ρ fun k => (k = false → WW S (.BoolOp .Or (b :: rest) pos) ρ Q) ∧ (k = true → Q true)) : WW S (.BoolOp .Or (a :: b :: rest) pos) ρ Q := fun X f H0 σ G R H E QV kq =>
  WW.by (pw_or pt_U pw_U) (h X f H0 σ G R H E _ fun k G2 R2 H2 q st => by
    cases k with
    | false =>
      rw [if_neg (by decide)]
      exact q.1 rfl X f H0 σ G2 R2 H2 (E.step st) QV fun d G3 R3 H3 q s3 => kq d G3 R3 H3 q (st.trans s3)
    | true =>
      rw [if_pos rfl]
      exact kq _ _ _ _ (q.2 rfl) st)
def IxD : PyData → PyData → (PyData → Prop) → Prop
  | .list xs, .int i, Q => ∃ d, atI xs i = some d ∧ Q d
  | .tuple xs, .int i, Q => ∃ d, atI xs i = some d ∧ Q d
  | _, _, _ => False
def WPa (S : Sta) (o : Option Expr) (ρ : Rho) (Q : Option Int → Prop) : Prop :=
  ∀ X, Fits S X → ∃ t, PO X o t ∧ ∀ H0 σ G R H, EnvR S.K H0 ρ σ G R H → ∀ QV : Option Int → Hp → Prop, (∀ i G2 R2 H2, Q i → Stp G R H G2 R2 H2 → QV i H2) → t σ H QV
def SliD : PyData → Option Int → Option Int → (PyData → Prop) → Prop
  | .list xs, lo, hi, Q => Q (.list (cutD xs lo hi))
  | .tuple xs, lo, hi, Q => Q (.tuple (cutD xs lo hi))
  | _, _, _, _ => False
def WD (S : Sta) (es : List Expr) (ρ : Rho) (Q : List PyData → Prop) : Prop :=
  ∀ X, Fits S X → ∀ H0 σ G R H, EnvR S.K H0 ρ σ G R H → ∃ t, PA X es t ∧ ∀ QV : List V → Hp → Prop, (∀ ds vs G2 R2 H2, Q ds → Stp G R H G2 R2 H2 → DdAll G2 vs ds → QV vs H2) → t σ H QV
def tUA (X : Cx) (es : List Expr) : TA := fun σ H Q => ∀ pos pins s, Inv X pins σ H s → wpAny (model X.prog X.w) X.A (spliced (backTo pos (starEach es X.env))) (AP X pins σ Q) X.xe s
theorem pa_U {X : Cx} {es : List Expr} : PA X es (tUA X es) := ⟨fun pos pins s σ H Q I h => h pos pins s I⟩
end
end Tee
namespace Oak
open PySem PySem.Spec PyProof.Rows L2
open Tee (Dd DdAll ScrL SysAt tU tUT tUW tUS pe_U pt_U pw_U pss_U PlusD MinusD TimesD FdivD ModD PowD CmpD rCmp opr_cmp isNone)
abbrev XF := Option (List (Str × PyData))
structure Sta where
  P : Program
  w : World
  K : PySem.W.Frag
  mg : Str → Option Value
  base : Heap
  N : List Str
  sc : Scope
  fn : Str → Bool
  k : Nat
  /-- slots that stay -/
  fxs : List Nat
  /-- what is wanted of an exception -/
  E : Value → XF → Rho → Prop
structure Fits (S : Sta) (X : Cx) : Prop where
  prog : X.prog = S.P
  w : X.w = S.w
  K : X.K = S.K
  mg : X.mg = S.mg
  base : X.base = S.base
  N : X.N = S.N
  sc : X.env.scope = S.sc
  fn : ∀ x, S.fn x = true → X.fn x = true
  calm : X.calm = true
  gd : X.A.guards = some []
  room : Room S.k X.A
  sys : SysAt X.base
  nd : X.N.Nodup
  own : PassesOwn (model X.prog X.w) X.A X.env X.xe
def XdAt (G H : Hp) : Option Addr → XF → Prop
  | none, none => True
  | some a, some fs => ∃ vs, H a = some (.xd ((fs.map (·.1)).zip vs)) ∧ DdAll G vs (fs.map (·.2))
  | _, _ => False
def wxOf (S : Sta) (B : Base) : WX := fun cls d σ H => ∃ fs ρ G, S.E cls fs ρ ∧ EnvR S.K B ρ σ [] [] G H ∧ XdAt G H d fs
structure Std (S : Sta) (X : Cx) (B : Base) : Prop where
  fit : Fits S X
  tk : Takes X (wxOf S B)
  fx : ∀ i w, (i, w) ∈ B.fx → i ∈ S.fxs
inductive Opd where
  | tmp (t : T)
  | var (i : Nat)
def Opd.cells : Opd → V → List Cell → List Cell
  | .tmp t, v, τ => (t, v) :: τ
  | .var _, _, τ => τ
def Opd.ok : Opd → V → L2.St → Prop
  | .tmp _, _, _ => True
  | .var i, v, σ => σ[i]? = some (some v)
def Opd.tree : Opd → Rho → Option T
  | .tmp t, _ => some t
  | .var i, ρ => (ρ[i]?).join
def Opd.view (o : Opd) (ρ : Rho) : Option PyData := (o.tree ρ).bind toD
def WV (S : Sta) (e : Expr) (ρ : Rho) (Q : T → Rho → Prop) : Prop :=
  ∀ X B, Std S X B → ∀ σ τ G H, EnvR S.K B ρ σ τ [] G H → ∀ QV : VK, (∀ t ρ' v G' H', Q t ρ' → EnvR S.K B ρ' σ ((t, v) :: τ) [] G' H' → QV v H') → tU X e σ H QV
def WO (S : Sta) (e : Expr) (ρ : Rho) (Q : Opd → Rho → Prop) : Prop :=
  ∀ X B, Std S X B → ∀ σ τ G H, EnvR S.K B ρ σ τ [] G H → ∀ QV : VK, (∀ o ρ' v G' H', Q o ρ' → EnvR S.K B ρ' σ (o.cells v τ) [] G' H' → o.ok v σ → QV v H') → tU X e σ H QV
def WT (S : Sta) (e : Expr) (ρ : Rho) (Q : Bool → Rho → Prop) : Prop :=
  ∀ X B, Std S X B → ∀ σ τ G H, EnvR S.K B ρ σ τ [] G H → ∀ QV : Bool → Hp → Prop, (∀ k ρ' G' H', Q k ρ' → EnvR S.K B ρ' σ τ [] G' H' → QV k H') → tUT X e σ H QV
def WW (S : Sta) (e : Expr) (ρ : Rho) (Q : Bool → Rho → Prop) : Prop :=
  ∀ X B, Std S X B → ∀ σ τ G H, EnvR S.K B ρ σ τ [] G H → ∀ QV : Bool → Hp → Prop, (∀ k ρ' G' H', Q k ρ' → EnvR S.K B ρ' σ τ [] G' H' → QV k H') → tUW X e σ H QV
section
variable {S : Sta} {ρ : Rho} {Q : T → Rho → Prop} {a b c e : Expr} {es rest : List Expr} {x : Str} {p pos : Pos}
theorem WV.mono {Q' : T → Rho → Prop} (h : WV S e ρ Q) (k : ∀ t ρ', Q t ρ' → Q' t ρ') : WV S e ρ Q' := fun X B st σ τ G H E QV kq => h X B st σ τ G H E QV fun t ρ' v G' H' q => kq t ρ' v G' H' (k _ _ q)
theorem WO.mono {Q Q' : Opd → Rho → Prop} (h : WO S e ρ Q) (k : ∀ t ρ', Q t ρ' → Q' t ρ') : WO S e ρ Q' := fun X B st σ τ G H E QV kq => h X B st σ τ G H E QV fun t ρ' v G' H' q => kq t ρ' v G' H' (k _ _ q)
theorem WT.mono {Q Q' : Bool → Rho → Prop} (h : WT S e ρ Q) (k : ∀ t ρ', Q t ρ' → Q' t ρ') : WT S e ρ Q' := fun X B st σ τ G H E QV kq => h X B st σ τ G H E QV fun t ρ' G' H' q => kq t ρ' G' H' (k _ _ q)
theorem WO.of {Q : Opd → Rho → Prop} (h : WV S e ρ fun t ρ' => Q (.tmp t) ρ') : WO S e ρ Q := fun X B st σ τ G H E QV kq => h X B st σ τ G H E QV fun t ρ' v G' H' q E' => kq (.tmp t) ρ' v G' H' q E' trivial
theorem EnvR.tree {K : PySem.W.Frag} {B : Base} {ρ : Rho} {σ : L2.St} {τ : List Cell} {G H : Hp} {t : T} {v : V} (E : EnvR K B ρ σ ((t, v) :: τ) [] G H) : ∃ f, qe0 K G H t v f ∧ ∀ a, f a → G a = none :=
  let ⟨f1, _, h1, _, _, h4, _⟩ := E.head
  ⟨f1, h1, fun a q => (h4 a (.inl q)).ng⟩
theorem Opd.at {K : PySem.W.Frag} {B : Base} {σ : L2.St} {τ : List Cell} {G H : Hp} {t : T} {v : V} {o : Opd} (E : EnvR K B ρ σ (o.cells v τ) [] G H) (ok : o.ok v σ) (h : o.tree ρ = some t) : ∃ f, qe0 K G H t v f ∧ ∀ a, f a → G a = none := by
  cases o with
  | tmp u =>
    cases h
    exact EnvR.tree E
  | var i =>
    have hi : ρ[i]? = some (some t) := by
      have h : (ρ[i]?).join = some t := h
      cases q : ρ[i]? with
      | none => rw [q] at h; cases h
      | some y => rw [q] at h; exact congrArg some h
    obtain ⟨v', hv, E2⟩ := E.take hi
    have : v' = v := by
      have ok : σ[i]? = some (some v) := ok
      rw [ok] at hv
      cases hv
      rfl
    subst this
    exact EnvR.tree E2
theorem Opd.dd {K : PySem.W.Frag} {B : Base} {σ : L2.St} {τ : List Cell} {G H : Hp} {d : PyData} {v : V} {o : Opd} (E : EnvR K B ρ σ (o.cells v τ) [] G H) (ok : o.ok v σ) (h : o.view ρ = some d) : Dd H v d := by
  unfold Opd.view at h
  cases q : o.tree ρ with
  | none => rw [q] at h; cases h
  | some t =>
    rw [q] at h
    obtain ⟨f, ht, _⟩ := Opd.at E ok q
    exact qe0.dd E.sm t v f d h (fun _ _ => rfl) ht
theorem Opd.drop {K : PySem.W.Frag} {B : Base} {σ : L2.St} {τ : List Cell} {G H : Hp} {v : V} {o : Opd} (E : EnvR K B ρ σ (o.cells v τ) [] G H) : EnvR K B ρ σ τ [] G H := by
  cases o with
  | tmp u => exact E.dropT
  | var i => exact E
def shs : List T → Option (List PyData)
  | [] => some []
  | .sh d :: ts => (shs ts).map (d :: ·)
  | _ :: _ => none
def lstOf : T → Option (List PyData)
  | .sh (.list ds) => some ds
  | .lst ts => shs ts
  | _ => none
def tupOf : T → Option (List PyData)
  | .sh (.tuple ds) => some ds
  | .tup ts => shs ts
  | _ => none
theorem shs_map : ∀ ds : List PyData, shs (ds.map .sh) = some ds
  | [] => rfl
  | d :: ds => by
    show (shs (ds.map .sh)).map (d :: ·) = _
    rw [shs_map ds]
    rfl
theorem shs_at {K : PySem.W.Frag} {G H : Hp} : ∀ {ts : List T} {vs : List V} {f : Addr → Prop} {ds : List PyData}, shs ts = some ds → qc0 K G H ts vs f → DdAll G vs ds
  | [], [], f, ds, e, h => by cases e; exact .nil
  | t :: ts, v :: vs, f, ds, e, h => by
    unfold qc0 at h
    obtain ⟨f1, f2, h1, h2, _⟩ := h
    cases t with
    | sh d =>
      have e : (shs ts).map (d :: ·) = some ds := e
      cases q : shs ts with
      | none => rw [q] at e; cases e
      | some ds' =>
        rw [q] at e
        cases e
        unfold qe0 at h1
        exact .cons h1 (shs_at q h2)
    | _ => cases e
  | [], _ :: _, f, ds, e, h => by unfold qc0 at h; exact h.elim
  | _ :: _, [], f, ds, e, h => by unfold qc0 at h; exact h.elim
theorem lst_at {K : PySem.W.Frag} {G H : Hp} (sm : Same G H) {t : T} {v : V} {f : Addr → Prop} {ds : List PyData} (h : qe0 K G H t v f) (e : lstOf t = some ds) : ∃ l vs, v = .ref l ∧ H l = some (.lst vs) ∧ DdAll G vs ds := by
  cases t with
  | sh d =>
    cases d with
    | list xs =>
      cases e
      unfold qe0 at h
      cases h with
      | lst h r => exact ⟨_, _, rfl, sm _ _ h, r⟩
    | _ => cases e
  | lst ts =>
    unfold qe0 at h
    obtain ⟨l, vs, g, rfl, h1, _, _, _, h5⟩ := h
    exact ⟨l, vs, rfl, h1, shs_at e h5⟩
  | _ => cases e
theorem tup_at {K : PySem.W.Frag} {G H : Hp} (sm : Same G H) {t : T} {v : V} {f : Addr → Prop} {ds : List PyData} (h : qe0 K G H t v f) (e : tupOf t = some ds) : ∃ l vs, v = .ref l ∧ H l = some (.tup vs) ∧ DdAll G vs ds := by
  cases t with
  | sh d =>
    cases d with
    | tuple xs =>
      cases e
      unfold qe0 at h
      cases h with
      | tup h r => exact ⟨_, _, rfl, sm _ _ h, r⟩
    | _ => cases e
  | tup ts =>
    unfold qe0 at h
    obtain ⟨l, vs, g, rfl, h1, _, _, _, h5⟩ := h
    exact ⟨l, vs, rfl, h1, shs_at e h5⟩
  | _ => cases e
def Opd.lst (o : Opd) (ρ : Rho) : Option (List PyData) := (o.tree ρ).bind lstOf
def Opd.tup (o : Opd) (ρ : Rho) : Option (List PyData) := (o.tree ρ).bind tupOf
theorem Opd.lst_at {K : PySem.W.Frag} {B : Base} {σ : L2.St} {τ : List Cell} {G H : Hp} {ds : List PyData} {v : V} {o : Opd} (E : EnvR K B ρ σ (o.cells v τ) [] G H) (ok : o.ok v σ) (h : o.lst ρ = some ds) : ∃ l vs, v = .ref l ∧ H l = some (.lst vs) ∧ DdAll G vs ds := by
  unfold Opd.lst at h
  cases q : o.tree ρ with
  | none => rw [q] at h; cases h
  | some t =>
    rw [q] at h
    obtain ⟨f, ht, _⟩ := Opd.at E ok q
    exact Oak.lst_at E.sm ht h
theorem Opd.tup_at {K : PySem.W.Frag} {B : Base} {σ : L2.St} {τ : List Cell} {G H : Hp} {ds : List PyData} {v : V} {o : Opd} (E : EnvR K B ρ σ (o.cells v τ) [] G H) (ok : o.ok v σ) (h : o.tup ρ = some ds) : ∃ l vs, v = .ref l ∧ H l = some (.tup vs) ∧ DdAll G vs ds := by
  unfold Opd.tup at h
  cases q : o.tree ρ with
  | none => rw [q] at h; cases h
  | some t =>
    rw [q] at h
    obtain ⟨f, ht, _⟩ := Opd.at E ok q
    exact Oak.tup_at E.sm ht h
theorem EnvR.addAll {K : PySem.W.Frag} {B : Base} {ρ : Rho} {σ : L2.St} {τ : List Cell} {rs : List Addr} {G H : Hp} (E : EnvR K B ρ σ τ rs G H) : ∀ {vs : List V} {ds : List PyData}, DdAll G vs ds → EnvR K B ρ σ ((ds.map T.sh).zip vs ++ τ) rs G H
  | _, _, .nil => E
  | _, _, .cons h t => (EnvR.addAll E t).addSh h
theorem EnvR.newOwn {K : PySem.W.Frag} {B : Base} {ρ : Rho} {σ : L2.St} {τ : List Cell} {G H : Hp} {vs : List V} {ds : List PyData} {l : Addr} (E : EnvR K B ρ σ τ [] G H) (h : DdAll G vs ds) (hp : H l = none) : EnvR K B ρ σ ((.lst (ds.map .sh), .ref l) :: τ) [] G (upd H l (.lst vs)) :=
  (E.addAll h).newL (by rw [List.length_map, Tee.DdAll.len h]) hp
theorem EnvR.newTup {K : PySem.W.Frag} {B : Base} {ρ : Rho} {σ : L2.St} {τ : List Cell} {G H : Hp} {vs : List V} {ds : List PyData} {l : Addr} (E : EnvR K B ρ σ τ [] G H) (h : DdAll G vs ds) (hp : H l = none) : EnvR K B ρ σ ((.tup (ds.map .sh), .ref l) :: τ) [] G (upd H l (.tup vs)) :=
  (E.addAll h).newT (by rw [List.length_map, Tee.DdAll.len h]) hp
theorem EnvR.non {K : PySem.W.Frag} {B : Base} {ρ : Rho} {σ : L2.St} {τ : List Cell} {rs : List Addr} {G H : Hp} (E : EnvR K B ρ σ τ rs G H) : EnvR K B ρ σ ((.sh .none, .non) :: τ) rs G H := E.addSh .non
theorem EnvR.int {K : PySem.W.Frag} {B : Base} {ρ : Rho} {σ : L2.St} {τ : List Cell} {rs : List Addr} {G H : Hp} (E : EnvR K B ρ σ τ rs G H) (i : Int) : EnvR K B ρ σ ((.sh (.int i), .int i) :: τ) rs G H := E.addSh (.int i)
theorem EnvR.bl {K : PySem.W.Frag} {B : Base} {ρ : Rho} {σ : L2.St} {τ : List Cell} {rs : List Addr} {G H : Hp} (E : EnvR K B ρ σ τ rs G H) (i : Bool) : EnvR K B ρ σ ((.sh (.bool i), .bl i) :: τ) rs G H := E.addSh (.bl i)
theorem std_var {X : Cx} (f : Fits S X) {i : Nat} (hN : S.N[i]? = some x) (hv : Vis S.sc x) (hd : (x == ("__debug__" : Str)) = false) (hcd : (x == ("__classdict__" : Str)) = false) : PE X (.Name x p) (tVar i) :=
  pe_var (i := i) (by rw [f.N]; exact hN) (by rw [f.sc]; exact hv) hd hcd
theorem wo_var (i : Nat) {t : T} {Q : Opd → Rho → Prop} (hN : S.N[i]? = some x) (hv : Vis S.sc x) (hr : ρ[i]? = some (some t)) (q : Q (.var i) ρ) (hd : (x == ("__debug__" : Str)) = false) (hcd : (x == ("__classdict__" : Str)) = false) : WO S (.Name x p) ρ Q := by
  intro X B st σ τ G H E QV kq
  obtain ⟨v, hs⟩ := E.all i t hr
  exact Tee.WE.by (std_var st.fit hN hv hd hcd) ⟨v, hs, kq (.var i) ρ v G H q E hs⟩
theorem wv_var (i : Nat) {d : PyData} (hN : S.N[i]? = some x) (hv : Vis S.sc x) (hr : ρ[i]? = some (some (.sh d))) (q : Q (.sh d) ρ) (hd : (x == ("__debug__" : Str)) = false) (hcd : (x == ("__classdict__" : Str)) = false) : WV S (.Name x p) ρ Q := by
  intro X B st σ τ G H E QV kq
  obtain ⟨v, hs, E2⟩ := E.take hr
  exact Tee.WE.by (std_var st.fit hN hv hd hcd) ⟨v, hs, kq _ _ _ _ _ q (E.addSh E2.dd)⟩
theorem wv_freeze (i : Nat) {t : T} {d : PyData} (hN : S.N[i]? = some x) (hv : Vis S.sc x) (hr : ρ[i]? = some (some t)) (ht : toD t = some d) (q : Q (.sh d) (ρ.set i (some (.sh d)))) (hd : (x == ("__debug__" : Str)) = false) (hcd : (x == ("__classdict__" : Str)) = false) : WV S (.Name x p) ρ Q := by
  intro X B st σ τ G H E QV kq
  obtain ⟨v, hs, E2⟩ := E.take hr
  obtain ⟨G', sg, E3⟩ := E2.freeze ht
  have E4 := (E3.addSh E3.dd).permT (List.Perm.refl _)
  have E5 := (E4.permT (List.Perm.refl _)).back hs
  rw [List.set_set] at E5
  exact Tee.WE.by (std_var st.fit hN hv hd hcd) ⟨v, hs, kq _ _ _ _ _ q E5⟩
theorem wv_move (i : Nat) {t : T} (hN : S.N[i]? = some x) (hv : Vis S.sc x) (hr : ρ[i]? = some (some t)) (q : Q t (ρ.set i none)) (hd : (x == ("__debug__" : Str)) = false) (hcd : (x == ("__classdict__" : Str)) = false) : WV S (.Name x p) ρ Q := by
  intro X B st σ τ G H E QV kq
  obtain ⟨v, hs, E2⟩ := E.take hr
  exact Tee.WE.by (std_var st.fit hN hv hd hcd) ⟨v, hs, kq _ _ _ _ _ q E2⟩
theorem wv_int {i : Int} {k : Nat} (q : Q (.sh (.int i)) ρ) : WV S (.Constant (.int i) k p) ρ Q := fun X B st σ τ G H E QV kq => Tee.WE.by pe_int (kq _ _ _ _ _ q (E.int i))
theorem wv_str {i : Str} {k : Nat} (q : Q (.sh (.str i)) ρ) : WV S (.Constant (.str i) k p) ρ Q := fun X B st σ τ G H E QV kq => Tee.WE.by pe_str (kq _ _ _ _ _ q (E.addSh (.str i)))
theorem wv_bl {i : Bool} {k : Nat} (q : Q (.sh (.bool i)) ρ) : WV S (.Constant (.bool i) k p) ρ Q := fun X B st σ τ G H E QV kq => Tee.WE.by (pe_bl (b := i)) (kq _ _ _ _ _ q (E.bl i))
theorem wv_none {k : Nat} (q : Q (.sh .none) ρ) : WV S (.Constant .none k p) ρ Q := fun X B st σ τ G H E QV kq => Tee.WE.by pe_non (kq _ _ _ _ _ q E.non)
theorem wv_globI {i : Int} {t : Tok} (hm : S.mg x = some (.int i t)) (q : Q (.sh (.int i)) ρ) (hg : S.sc.names.lookup x = some .globalImplicit) (hd : (x == ("__debug__" : Str)) = false) : WV S (.Name x p) ρ Q := by
  intro X B st σ τ G H E QV kq
  exact Tee.WE.by (pe_glob (v := .int i) (by show X.env.scope.names.lookup x = _; rw [st.fit.sc]; exact hg) (by rw [st.fit.mg]; exact hm) ⟨t, rfl⟩ hd) (kq _ _ _ _ _ q (E.int i))
theorem two {X : Cx} {B : Base} (st : Std S X B) {σ : L2.St} {τ : List Cell} {G H : Hp} (E : EnvR S.K B ρ σ τ [] G H) {D : Opd → Opd → Rho → Prop} (h : WO S a ρ fun oa ρ1 => WO S b ρ1 fun ob ρ2 => D oa ob ρ2) {Z : V → V → Hp → Prop}
    (k : ∀ oa ob ρ2 v u G2 H2, D oa ob ρ2 → EnvR S.K B ρ2 σ (ob.cells u (oa.cells v τ)) [] G2 H2 → oa.ok v σ → ob.ok u σ → Z v u H2) : tU X a σ H fun v H1 => tU X b σ H1 fun u H2 => Z v u H2 :=
  h X B st σ τ G H E _ fun oa ρ1 v G1 H1 q1 E1 ok1 => q1 X B st σ (oa.cells v τ) G1 H1 E1 _ fun ob ρ2 u G2 H2 q2 E2 ok2 => k oa ob ρ2 v u G2 H2 q2 E2 ok1 ok2
def newT : PyData → T
  | .list ds => .lst (ds.map .sh)
  | d => .sh d
def PlusO (oa ob : Opd) (ρ : Rho) (Q : T → Rho → Prop) : Prop :=
  (∃ i j, oa.view ρ = some (.int i) ∧ ob.view ρ = some (.int j) ∧ Q (.sh (.int (i + j))) ρ) ∨
  (∃ xs ys, oa.lst ρ = some xs ∧ ob.lst ρ = some ys ∧ xs.length + ys.length ≤ sizeLine ∧ Q (.lst ((xs ++ ys).map .sh)) ρ)
theorem _root_.Tee.Dd.intV {H : Hp} {v : V} {i : Int} (h : Dd H v (.int i)) : v = .int i := by cases h; rfl
theorem _root_.Tee.Dd.blV {H : Hp} {v : V} {i : Bool} (h : Dd H v (.bool i)) : v = .bl i := by cases h; rfl
theorem wv_plus (h : WO S a ρ fun oa ρ1 => WO S b ρ1 fun ob ρ2 => PlusO oa ob ρ2 Q) : WV S (.BinOp a .Add b pos) ρ Q := by
  intro X B st σ τ G H E QV kq pins s I
  have ho : OpR X (binaryOp .Add) (fun x y H Q' => (∃ i j, x = .int i ∧ y = .int j ∧ Q' (.int (i + j)) H) ∨ rCat x y H Q') := by
    intro pins s σ H x y v u Q' I rx ry h
    rcases h with h | h
    · exact op_add pins s σ H x y v u Q' I rx ry h
    · exact op_cat pins s σ H x y v u Q' I rx ry h
  refine (pe_op ho pe_U pe_U).run pins s σ H QV I (two st E h fun oa ob ρ2 v u G2 H2 q E2 ok1 ok2 => ?_)
  have Ea := Opd.drop E2
  have E0 := Opd.drop Ea
  rcases q with ⟨i, j, e1, e2, q⟩ | ⟨xs, ys, e1, e2, z, q⟩
  · exact .inl ⟨i, j, (Opd.dd Ea ok1 e1).intV, (Opd.dd E2 ok2 e2).intV, kq _ _ _ _ _ q (E0.int _)⟩
  · obtain ⟨l1, v1, rfl, h1, r1⟩ := Opd.lst_at Ea ok1 e1
    obtain ⟨l2, v2, rfl, h2, r2⟩ := Opd.lst_at E2 ok2 e2
    exact .inr ⟨l1, l2, v1, v2, rfl, rfl, h1, h2, by rw [Tee.DdAll.len r1, Tee.DdAll.len r2]; exact z, fun p hp => kq _ _ _ _ _ q (E0.newOwn (Tee.DdAll.app r1 r2) hp)⟩
def IntO (C : Int → Int → Prop) (g : Int → Int → Int) (oa ob : Opd) (ρ : Rho) (Q : T → Rho → Prop) : Prop := ∃ i j, oa.view ρ = some (.int i) ∧ ob.view ρ = some (.int j) ∧ C i j ∧ Q (.sh (.int (g i j))) ρ
theorem wv_int2 {op : Operator} {C : Int → Int → Prop} {g : Int → Int → Int} (ho : ∀ X, OpR X (binaryOp op) (rI C fun i j => .int (g i j)))
    (h : WO S a ρ fun oa ρ1 => WO S b ρ1 fun ob ρ2 => IntO C g oa ob ρ2 Q) : WV S (.BinOp a op b pos) ρ Q := by
  intro X B st σ τ G H E QV kq pins s I
  refine (pe_op (ho X) pe_U pe_U).run pins s σ H QV I (two st E h fun oa ob ρ2 v u G2 H2 q E2 ok1 ok2 => ?_)
  obtain ⟨i, j, e1, e2, hc, q⟩ := q
  exact ⟨i, j, (Opd.dd (Opd.drop E2) ok1 e1).intV, (Opd.dd E2 ok2 e2).intV, hc, kq _ _ _ _ _ q ((Opd.drop (Opd.drop E2)).int _)⟩
theorem wv_minus (h : WO S a ρ fun oa ρ1 => WO S b ρ1 fun ob ρ2 => IntO (fun _ _ => True) (fun i j => i - j) oa ob ρ2 Q) : WV S (.BinOp a .Sub b pos) ρ Q :=
  wv_int2 (fun X pins s σ H x y v u Q I rx ry ⟨i, j, e1, e2, _, q⟩ => op_sub pins s σ H x y v u Q I rx ry ⟨i, j, e1, e2, q⟩) h
theorem wv_fdiv (h : WO S a ρ fun oa ρ1 => WO S b ρ1 fun ob ρ2 => IntO CDivW (fun i j => i / j) oa ob ρ2 Q) : WV S (.BinOp a .FloorDiv b pos) ρ Q := wv_int2 (fun X => op_fdivW) h
theorem wv_mod (h : WO S a ρ fun oa ρ1 => WO S b ρ1 fun ob ρ2 => IntO (fun _ j => 0 < j) (fun i j => i % j) oa ob ρ2 Q) : WV S (.BinOp a .Mod b pos) ρ Q := wv_int2 (fun X => op_mod) h
theorem wv_pow (h : WO S a ρ fun oa ρ1 => WO S b ρ1 fun ob ρ2 => IntO CPow (fun i j => i ^ j.toNat) oa ob ρ2 Q) : WV S (.BinOp a .Pow b pos) ρ Q := wv_int2 (fun X => op_pow) h
def CMulO (i j : Int) : Prop := CMulW i j ∨ CMul i j
def TimesO (oa ob : Opd) (ρ : Rho) (Q : T → Rho → Prop) : Prop :=
  (∃ i j, oa.view ρ = some (.int i) ∧ ob.view ρ = some (.int j) ∧ CMulO i j ∧ Q (.sh (.int (i * j))) ρ) ∨
  (∃ xs k, oa.lst ρ = some xs ∧ ob.view ρ = some (.int k) ∧ -(2 ^ 63) ≤ k ∧ k < 2 ^ 63 ∧ xs.length * k.toNat ≤ sizeLine ∧ Q (.lst ((List.replicate k.toNat xs).flatten.map .sh)) ρ)
theorem wv_times (h : WO S a ρ fun oa ρ1 => WO S b ρ1 fun ob ρ2 => TimesO oa ob ρ2 Q) : WV S (.BinOp a .Mult b pos) ρ Q := by
  intro X B st σ τ G H E QV kq pins s I
  have ho : OpR X (binaryOp .Mult) (fun x y H Q' => (∃ i j, x = .int i ∧ y = .int j ∧ CMulO i j ∧ Q' (.int (i * j)) H) ∨ rRep x y H Q') := by
    intro pins s σ H x y v u Q' I rx ry h
    rcases h with h | h
    · obtain ⟨i, j, e1, e2, c, q⟩ := h
      rcases c with c | c
      · exact op_mulW pins s σ H x y v u Q' I rx ry ⟨i, j, e1, e2, c, q⟩
      · exact op_mul pins s σ H x y v u Q' I rx ry ⟨i, j, e1, e2, c, q⟩
    · exact op_rep pins s σ H x y v u Q' I rx ry h
  refine (pe_op ho pe_U pe_U).run pins s σ H QV I (two st E h fun oa ob ρ2 v u G2 H2 q E2 ok1 ok2 => ?_)
  have Ea := Opd.drop E2
  have E0 := Opd.drop Ea
  rcases q with ⟨i, j, e1, e2, c, q⟩ | ⟨xs, k, e1, e2, q1, q2, q3, q⟩
  · exact .inl ⟨i, j, (Opd.dd Ea ok1 e1).intV, (Opd.dd E2 ok2 e2).intV, c, kq _ _ _ _ _ q (E0.int _)⟩
  · obtain ⟨l1, v1, rfl, h1, r1⟩ := Opd.lst_at Ea ok1 e1
    exact .inr ⟨l1, _, v1, rfl, (Opd.dd E2 ok2 e2).intV, h1, q1, q2, by rw [Tee.DdAll.len r1]; exact q3, fun p hp => kq _ _ _ _ _ q (E0.newOwn (Tee.DdAll.rep r1 _) hp)⟩
theorem wv_neg (h : WO S a ρ fun oa ρ1 => ∃ i, oa.view ρ1 = some (.int i) ∧ Q (.sh (.int (-i))) ρ1) : WV S (.UnaryOp .USub a pos) ρ Q := by
  intro X B st σ τ G H E QV kq pins s I
  refine (pe_un un_neg pe_U).run pins s σ H QV I (h X B st σ τ G H E _ fun oa ρ1 v G1 H1 q E1 ok => ?_)
  obtain ⟨i, e, q⟩ := q
  exact ⟨i, (Opd.dd E1 ok e).intV, kq _ _ _ _ _ q ((Opd.drop E1).int _)⟩
theorem _root_.Tee.Dd.od {H : Hp} {v : V} {d : PyData} (h : Dd H v d) : Tee.Od H (fun _ => none) H v d := .dd h
theorem wd_self (H : Hp) : Tee.Wd H (fun _ => none) H := ⟨Same.refl H, fun _ _ e => (nomatch e), fun _ _ e => (nomatch e)⟩
def InX : PyData → PyData → (Bool → Prop) → Prop
  | .str c, .str z, Q => ∃ k : Nat, c = ⟨#[k]⟩ ∧ Q (decide (k ∈ z.cps.toList))
  | d, .list ds, Q => SeqAt.shaped d = true ∧ SeqAt.shaped (.list ds) = true ∧ Q (ds.any fun z => PyData.eqv z d)
  | .int i, .tuple ds, Q => ∃ ns : List Int, ds = ns.map .int ∧ Q (decide (i ∈ ns))
  | _, _, _ => False
theorem InX.mono {d e : PyData} {Q Q' : Bool → Prop} (h : InX d e Q) (k : ∀ b, Q b → Q' b) : InX d e Q' := by
  unfold InX at h ⊢
  split at h
  · obtain ⟨c, h1, h2⟩ := h; exact ⟨c, h1, k _ h2⟩
  · exact ⟨h.1, h.2.1, k _ h.2.2⟩
  · obtain ⟨ns, h1, h2⟩ := h; exact ⟨ns, h1, k _ h2⟩
  · exact h.elim
def CmpX : CmpOp → PyData → PyData → (Bool → Prop) → Prop
  | .In, d, e, Q => InX d e Q
  | .NotIn, d, e, Q => InX d e fun k => Q (!k)
  | op, d, e, Q => CmpD op d e Q
def rCmpX (K : PySem.W.Frag) : CmpOp → R2
  | .In => fun x y H Q => rInD K x y H Q ∨ (∃ (c : Nat) (z : Str), x = .str ⟨#[c]⟩ ∧ y = .str z ∧ Q (.bl (decide (c ∈ z.cps.toList))) H) ∨ rIn K false x y H Q
  | .NotIn => fun x y H Q => rNotInD K x y H Q ∨ (∃ (c : Nat) (z : Str), x = .str ⟨#[c]⟩ ∧ y = .str z ∧ Q (.bl (!decide (c ∈ z.cps.toList))) H) ∨ rIn K true x y H Q
  | op => rCmp K op
theorem opr_cmpX {X : Cx} (hu : X.A.units + 65 < cLine) : ∀ op : CmpOp, OpR X (compareOp op) (rCmpX X.K op)
  | .In => fun pins s σ H x y v u Q I rx ry h => h.elim (op_inD hu pins s σ H x y v u Q I rx ry) fun h => h.elim (op_in_sign pins s σ H x y v u Q I rx ry) (op_in_seq pins s σ H x y v u Q I rx ry)
  | .NotIn => fun pins s σ H x y v u Q I rx ry h => h.elim (op_notInD hu pins s σ H x y v u Q I rx ry) fun h => h.elim (op_notIn_sign pins s σ H x y v u Q I rx ry) (op_notIn_seq pins s σ H x y v u Q I rx ry)
  | .Eq => opr_cmp (Nat.lt_of_succ_lt hu) .Eq
  | .NotEq => opr_cmp (Nat.lt_of_succ_lt hu) .NotEq
  | .Lt => opr_cmp (Nat.lt_of_succ_lt hu) .Lt
  | .LtE => opr_cmp (Nat.lt_of_succ_lt hu) .LtE
  | .Gt => opr_cmp (Nat.lt_of_succ_lt hu) .Gt
  | .GtE => opr_cmp (Nat.lt_of_succ_lt hu) .GtE
  | .Is => opr_cmp (Nat.lt_of_succ_lt hu) .Is
  | .IsNot => opr_cmp (Nat.lt_of_succ_lt hu) .IsNot
theorem room65 {k : Nat} {A : Around} (r : Room k A) : A.units + 65 < cLine := by have := r.un; omega
theorem inV_ints (i : Int) (ns : List Int) : inV (.int i) (ns.map V.int) = decide (i ∈ ns) := by
  unfold inV
  rw [List.any_map]
  have e : ∀ x : Int, ((fun y => eqV y (V.int i)) ∘ V.int) x = decide (x = i) := fun x => by
    show eqV (V.int x) (V.int i) = _
    by_cases h : x = i <;> simp [eqV, h]
  induction ns with
  | nil => rfl
  | cons n ns ih =>
    rw [List.any_cons, ih, e]
    by_cases h : n = i
    · subst h; simp
    · have h' : i ≠ n := fun e => h e.symm
      simp [h, h']
theorem inX_sound {K : PySem.W.Frag} {H : Hp} {da db : PyData} {v u : V} {Q : Bool → Prop} (o1 : Dd H v da) (o2 : Dd H u db) (q : InX da db Q) :
    (∃ d ds, Dp K H v d ∧ Dp K H u (.list ds) ∧ SeqAt.shaped d = true ∧ SeqAt.shaped (.list ds) = true ∧ Q (ds.any fun z => PyData.eqv z d)) ∨ (∃ (c : Nat) (z : Str), v = .str ⟨#[c]⟩ ∧ u = .str z ∧ Q (decide (c ∈ z.cps.toList))) ∨ ∃ p xs, u = .ref p ∧ (SqL K H p xs ∨ SqT K H p xs) ∧ flatV v = true ∧ xs.all flatV = true ∧ Q (inV v xs) := by
  unfold InX at q
  split at q
  · obtain ⟨k, rfl, q⟩ := q
    exact .inr (.inl ⟨k, _, (by cases o1; rfl), (by cases o2; rfl), q⟩)
  · exact .inl ⟨_, _, o1.od.dp (wd_self H) (Tee.shaped_lay q.1), o2.od.dp (wd_self H) (Tee.shaped_lay q.2.1), q.1, q.2.1, q.2.2⟩
  · obtain ⟨ns, rfl, q⟩ := q
    cases o1
    cases o2 with
    | tup h1 r =>
      have e := Tee.DdAll.intsV ns r
      subst e
      refine .inr (.inr ⟨_, _, rfl, .inr (SqT.of h1), rfl, ?_, by rw [inV_ints]; exact q⟩)
      rw [List.all_map, List.all_eq_true]
      intro x _
      rfl
  · exact q.elim
theorem cmpX_sound {K : PySem.W.Frag} {H : Hp} {op : CmpOp} {da db : PyData} {v u : V} {Q : Bool → Prop} {QV : VK} (o1 : Dd H v da) (o2 : Dd H u db) (q : CmpX op da db Q) (k : ∀ b, Q b → QV (.bl b) H) : rCmpX K op v u H QV := by
  cases op
  case In => exact (inX_sound (K := K) o1 o2 (show InX da db Q from q)).elim (fun ⟨d, ds, h1, h2, h3, h4, h5⟩ => .inl ⟨d, ds, h1, h2, h3, h4, k _ h5⟩) fun z => z.elim (fun ⟨c, z, h1, h2, h3⟩ => .inr (.inl ⟨c, z, h1, h2, k _ h3⟩)) fun ⟨p, xs, h1, h2, h3, h4, h5⟩ => .inr (.inr ⟨p, xs, h1, h2, h3, h4, k _ h5⟩)
  case NotIn => exact (inX_sound (K := K) o1 o2 (show InX da db (fun k => Q (!k)) from q)).elim (fun ⟨d, ds, h1, h2, h3, h4, h5⟩ => .inl ⟨d, ds, h1, h2, h3, h4, k _ h5⟩) fun z => z.elim (fun ⟨c, z, h1, h2, h3⟩ => .inr (.inl ⟨c, z, h1, h2, k _ h3⟩)) fun ⟨p, xs, h1, h2, h3, h4, h5⟩ => .inr (.inr ⟨p, xs, h1, h2, h3, h4, k _ h5⟩)
  all_goals exact Tee.cmp_sound (K := K) (wd_self H) o1.od o2.od (show CmpD _ da db Q from q) k
theorem CmpX.mono {op : CmpOp} {d e : PyData} {Q Q' : Bool → Prop} (h : CmpX op d e Q) (k : ∀ b, Q b → Q' b) : CmpX op d e Q' := by
  have gen : ∀ {op : CmpOp}, CmpD op d e Q → CmpD op d e Q' := fun h => by
    unfold CmpD at h ⊢
    split at h <;> first
      | exact k _ h
      | exact ⟨h.1, h.2.1, k _ h.2.2⟩
      | exact h.elim
  cases op
  case In => exact InX.mono h k
  case NotIn => exact InX.mono h fun b => k _
  all_goals exact gen h
def CmpO (op : CmpOp) (oa ob : Opd) (ρ : Rho) (Q : Bool → Prop) : Prop := ∃ da db, oa.view ρ = some da ∧ ob.view ρ = some db ∧ CmpX op da db Q
theorem wv_cmp {op : CmpOp} (h : WO S a ρ fun oa ρ1 => WO S b ρ1 fun ob ρ2 => CmpO op oa ob ρ2 fun k => Q (.sh (.bool k)) ρ2) (hm : behindInMarks op b = false) : WV S (.Compare a [op] [b] pos) ρ Q := by
  intro X B st σ τ G H E QV kq pins s I
  refine (pe_cmpR (opr_cmpX (room65 st.fit.room) op) pe_U pe_U hm).run pins s σ H QV I (two st E h fun oa ob ρ2 v u G2 H2 q E2 ok1 ok2 => ?_)
  obtain ⟨da, db, e1, e2, q⟩ := q
  exact cmpX_sound (Opd.dd (Opd.drop E2) ok1 e1) (Opd.dd E2 ok2 e2) q fun k q => kq _ _ _ _ _ q ((Opd.drop (Opd.drop E2)).bl k)
theorem wt_cmp {op : CmpOp} {Q : Bool → Rho → Prop} (h : WO S a ρ fun oa ρ1 => WO S b ρ1 fun ob ρ2 => CmpO op oa ob ρ2 fun k => Q k ρ2) (hm : behindInMarks op b = false) : WT S (.Compare a [op] [b] pos) ρ Q := by
  intro X B st σ τ G H E QV kq pins s I
  refine (pt_cmpR (opr_cmpX (room65 st.fit.room) op) pe_U pe_U hm).run pins s σ H QV I (two st E h fun oa ob ρ2 v u G2 H2 q E2 ok1 ok2 => ?_)
  obtain ⟨da, db, e1, e2, q⟩ := q
  exact cmpX_sound (Opd.dd (Opd.drop E2) ok1 e1) (Opd.dd E2 ok2 e2) q fun k q => ⟨k, rfl, kq _ _ _ _ q (Opd.drop (Opd.drop E2))⟩
end
end Oak
namespace Tee
open PySem PySem.Spec PyProof.Rows L2
def Gb (S : Sta) (x : Str) : Prop := S.sc.names.lookup x = some .globalImplicit
theorem gb_of {S : Sta} {X : Cx} (f : Fits S X) {x : Str} (h : Gb S x) : Gl X x := by
  show X.env.scope.names.lookup x = _
  rw [f.sc]
  exact h
section
variable {S : Sta} {ρ : Rho} {Q : PyData → Prop} {a b c e : Expr} {es rest : List Expr} {x : Str} {p pos : Pos}
def LenD : PyData → (PyData → Prop) → Prop
  | .list xs, Q => Q (.int (xs.length : Int))
  | .tuple xs, Q => Q (.int (xs.length : Int))
  | _, _ => False
def SumD : PyData → (PyData → Prop) → Prop := fun d Q => ∃ ns : List Int, d = .list (ns.map .int) ∧ Q (.int ns.sum)
def MaxD : PyData → (PyData → Prop) → Prop := fun d Q => ∃ ns : List Int, d = .list (ns.map .int) ∧ 0 < ns.length ∧ ∀ m, m ∈ ns → (∀ y ∈ ns, y ≤ m) → Q (.int m)
def MinD : PyData → (PyData → Prop) → Prop := fun d Q => ∃ ns : List Int, d = .list (ns.map .int) ∧ 0 < ns.length ∧ ∀ m, m ∈ ns → (∀ y ∈ ns, m ≤ y) → Q (.int m)
def Max2D : PyData → PyData → (PyData → Prop) → Prop
  | .int i, .int j, Q => Q (.int (if j > i then j else i))
  | _, _, _ => False
def Min2D : PyData → PyData → (PyData → Prop) → Prop
  | .int i, .int j, Q => Q (.int (if j < i then j else i))
  | _, _, _ => False
def IntD : PyData → (PyData → Prop) → Prop
  | .int i, Q => Q (.int i)
  | .bool k, Q => Q (.int (if k then 1 else 0))
  | _, _ => False
def TupD : PyData → (PyData → Prop) → Prop
  | .list xs, Q => Q (.tuple xs)
  | .tuple xs, Q => Q (.tuple xs)
  | _, _ => False
def LisD : PyData → (PyData → Prop) → Prop
  | .list xs, Q => Q (.list xs)
  | .tuple xs, Q => Q (.list xs)
  | _, _ => False
theorem DdAll.blsV {G : Hp} : ∀ (ns : List Bool) {vs : List V}, DdAll G vs (ns.map PyData.bool) → vs = ns.map V.bl
  | [], _, h => by cases h; rfl
  | n :: ns, _, h => by
    cases h with
    | cons h t =>
      cases h
      rw [DdAll.blsV ns t]
      rfl
def AllD : PyData → (PyData → Prop) → Prop := fun d Q => ∃ ns : List Bool, d = .list (ns.map .bool) ∧ Q (.bool (ns.all id))
def AnyD : PyData → (PyData → Prop) → Prop := fun d Q => ∃ ns : List Bool, d = .list (ns.map .bool) ∧ Q (.bool (ns.any id))
def ReprD : PyData → (PyData → Prop) → Prop := fun d Q => ((∃ xs, d = .list xs) ∨ (∃ xs, d = .tuple xs)) ∧ d.showable = true ∧ d.depth ≤ 60 ∧ d.shown.length ≤ sizeLine ∧ Q (.str d.shown)
def tyName : PyData → String
  | .none => "NoneType"
  | .bool _ => "bool"
  | .int _ => "int"
  | .str _ => "str"
  | .list _ => "list"
  | .tuple _ => "tuple"
  | .dict _ => "dict"
theorem Dd.ty {K : PySem.W.Frag} {G H : Hp} (e : Same G H) {v : V} {d : PyData} (h : Dd G v d) : TyX K H v (.type (tyName d)) := by
  cases h with
  | non => exact .base .non
  | bl b => exact .base (.bl b)
  | int i => exact .base (.int i)
  | str x => exact .base (.str x)
  | lst h r => exact .base (.lst (e _ _ h))
  | tup h r => exact .base (.tup (e _ _ h))
  | dct0 h => exact .base (.dK (e _ _ h))
  | dct1 h => exact .base (.dK (e _ _ h))
end
end Tee
namespace Tee
open PySem PySem.Spec PyProof.Rows L2
abbrev Wp := List SV → (PyData → Prop) → Prop
def spV (K : PySem.W.Frag) (W : Wp) : Sp := fun vs H Q _ => ∃ (G R : Hp) (as : List SV) (Q0 : PyData → Prop), Wd G R H ∧ ArgsR K G R vs as ∧ W as Q0 ∧
  ∀ d v G2 R2 H2, Q0 d → Stp G R H G2 R2 H2 → Dd G2 v d → Q v H2
structure Has (P : Program) (w : World) (K : PySem.W.Frag) (mg : Str → Option Value) (base : Heap) (x : Str) (k : Nat) (W : Wp) : Prop where
  ex : ∃ (f : Addr) (fd : FuncData) (ps : List Str), mg x = some (.ref f) ∧ PySem.W.keepIn K (.ref f) = true ∧ Binds K fd ps [] ∧ Gok P w K mg base CX0 k f fd ps (spV K W)
abbrev Sta.has (S : Sta) (x : Str) (k : Nat) (W : Wp) : Prop := Has S.P S.w S.K S.mg S.base x k W
theorem Gok.mono {P : Program} {w : World} {K : PySem.W.Frag} {mg : Str → Option Value} {base : Heap} {CX : CXT} {j k : Nat} {f : Addr} {fd : FuncData} {ps : List Str} {sp : Sp} (F : Gok P w K mg base CX j f fd ps sp) (h : j ≤ k) : Gok P w K mg base CX k f fd ps sp :=
  ⟨F.len, fun B above t H ar us vs Q E hg hr => F.go B above t H ar us vs Q E hg (hr.mono h)⟩
section
variable {S : Sta} {ρ : Rho} {Q : PyData → Prop} {a b c e : Expr} {es rest : List Expr} {x : Str} {p pos : Pos}
end
def Good (J : It) (ds : List PyData) (G : Hp) : Prop := ∀ G' R' H', Same G G' → Wd G' R' H' → ∀ i,
  (i < ds.length → J.go i H' ∧ ∀ x H'', J.yld i H' x H'' → ∃ G'' d, Stp G' R' H' G'' R' H'' ∧ ds[i]? = some d ∧ Dd G'' x d) ∧ (ds.length ≤ i → J.stop i H')
def WI (S : Sta) (tg iter : Expr) (ρ : Rho) (Q : List PyData → Prop) : Prop :=
  ∀ X, Fits S X → ∀ H0 σ G R H, EnvR S.K H0 ρ σ G R H → ∃ wi, PI X tg iter wi ∧ ∀ RV : It → Hp → Prop, (∀ ds J G2 R2 H2, Q ds → Stp G R H G2 R2 H2 → Good J ds G2 → RV J H2) → wi σ H RV
section
variable {S : Sta} {ρ : Rho} {a b c e tg iter : Expr} {es rest : List Expr} {x : Str} {p pos : Pos}
theorem wi_list {Q : List PyData → Prop} (h : WE S iter ρ fun d => ∃ ds, d = .list ds ∧ Q ds) : WI S tg iter ρ Q := by
  intro X f H0 σ G R H E
  refine ⟨_, pi_list pe_U, fun RV k => h X f H0 σ G R H E _ fun d v G2 R2 H2 ⟨ds, e, q⟩ st dd => ?_⟩
  subst e
  cases dd with
  | @lst l vs _ hl r =>
    refine ⟨l, rfl, ⟨vs, SqL.of (st.wd.gh _ _ hl)⟩, k ds _ G2 R2 H2 q st fun G' R' H' sg w i => ⟨fun hi => ?_, fun hi => ⟨vs, SqL.of (w.gh _ _ (sg _ _ hl)), by rw [r.len]; exact hi⟩⟩⟩
    have hq := SqL.of (K := X.K) (w.gh _ _ (sg _ _ hl))
    obtain ⟨d, ed⟩ : ∃ d, ds[i]? = some d := ⟨_, List.getElem?_eq_getElem hi⟩
    obtain ⟨v, ev, dv⟩ := r.get ed
    refine ⟨⟨vs, v, hq, ev⟩, fun x H'' ⟨e1, e2⟩ => ?_⟩
    subst e1
    have ex : v = x := Option.some.inj (ev.symm.trans (e2 vs hq))
    subst ex
    exact ⟨G', d, Stp.refl w, ed, Dd.mono sg _ _ dv⟩
theorem wi_tup {Q : List PyData → Prop} (h : WE S iter ρ fun d => ∃ ds, d = .tuple ds ∧ Q ds) : WI S tg iter ρ Q := by
  intro X f H0 σ G R H E
  refine ⟨_, pi_tup pe_U, fun RV k => h X f H0 σ G R H E _ fun d v G2 R2 H2 ⟨ds, e, q⟩ st dd => ?_⟩
  subst e
  cases dd with
  | @tup l vs _ hl r =>
    refine ⟨l, rfl, ⟨vs, SqT.of (st.wd.gh _ _ hl)⟩, k ds _ G2 R2 H2 q st fun G' R' H' sg w i => ⟨fun hi => ?_, fun hi => ⟨vs, SqT.of (w.gh _ _ (sg _ _ hl)), by rw [r.len]; exact hi⟩⟩⟩
    have hq := SqT.of (K := X.K) (w.gh _ _ (sg _ _ hl))
    obtain ⟨d, ed⟩ : ∃ d, ds[i]? = some d := ⟨_, List.getElem?_eq_getElem hi⟩
    obtain ⟨v, ev, dv⟩ := r.get ed
    refine ⟨⟨vs, v, hq, ev⟩, fun x H'' ⟨e1, e2⟩ => ?_⟩
    subst e1
    have ex : v = x := Option.some.inj (ev.symm.trans (e2 vs hq))
    subst ex
    exact ⟨G', d, Stp.refl w, ed, Dd.mono sg _ _ dv⟩
def upTo (n : Nat) : List PyData := (List.range n).map fun i => .int ((i : Nat) : Int)
theorem upTo_len (n : Nat) : (upTo n).length = n := by unfold upTo; rw [List.length_map, List.length_range]
theorem upTo_get {n i : Nat} (h : i < n) : (upTo n)[i]? = some (.int (i : Int)) := by
  unfold upTo
  rw [List.getElem?_map, List.getElem?_range h]
  rfl
theorem wi_range {Q : List PyData → Prop} (h : WO S a ρ fun d => ∃ n : Int, d = .int n ∧ -(2 ^ 62) ≤ n ∧ n < 2 ^ 62 ∧ Q (upTo n.toNat)) (hm : S.mg "range" = none) (hg : Gb S "range" := by rfl) (hs : ∀ env, starEach [a] env = [(false, eval a env)] := by intro _; rfl) :
    WI S tg (.Call (.Name "range" p) [a] [] pos) ρ Q := by
  intro X f H0 σ G R H E
  refine ⟨_, pi_range1 (gb_of f hg) (by rw [f.mg]; exact hm) (pa_cons pe_U pa_nil (hs _)) (hs _), fun RV k => h X f H0 σ G R H E _ fun d v G2 R2 H2 ⟨n, e, h1, h2, q⟩ st o => ?_⟩
  subst e
  refine ⟨n, by rw [o.int], h1, h2, k _ _ G2 R2 H2 q st fun G' R' H' sg w i => ⟨fun hi => ?_, fun hi => ?_⟩⟩
  · rw [upTo_len] at hi
    refine ⟨hi, fun x H'' ⟨e1, e2⟩ => ?_⟩
    subst e1
    subst e2
    refine ⟨G', _, Stp.refl w, upTo_get hi, ?_⟩
    rw [Int.zero_add]
    exact .int _
  · rw [upTo_len] at hi
    exact hi
def tUG (X : Cx) (tg : Expr) : TG := fun v σ H Q => ∀ pins s u, Inv X pins σ H s → RelV v u → wpAny (model X.prog X.w) X.A (assign tg X.env u) (fun _ s' => ∃ σ' H', Inv X pins σ' H' s' ∧ Q σ' H') X.xe s
theorem pg_U {X : Cx} {tg : Expr} : PG X tg (tUG X tg) := ⟨fun pins s σ H v u Q I r h => h pins s u I r⟩
def OffS (L : List Nat) (σ σ' : L2.St) : Prop := σ'.length = σ.length ∧ ∀ i, i ∉ L → σ'[i]? = σ[i]?
theorem wipe_get {vs : List Nat} : ∀ {σ : L2.St} {i : Nat}, (wipe σ vs)[i]? = if i ∈ vs ∧ i < σ.length then some none else σ[i]? := by
  induction vs with
  | nil => intro σ i; simp [wipe]
  | cons v vs ih =>
    intro σ i
    show ((wipe σ vs).set v none)[i]? = _
    by_cases hv : v = i
    · subst hv
      by_cases hl : v < σ.length
      · rw [List.getElem?_set_self (by rw [wipe_length]; exact hl), if_pos ⟨by simp, hl⟩]
      · rw [if_neg (fun z => hl z.2), List.getElem?_eq_none (by rw [List.length_set, wipe_length]; omega), List.getElem?_eq_none (by omega)]
    · rw [List.getElem?_set_ne hv, ih]
      by_cases hm : i ∈ vs ∧ i < σ.length
      · rw [if_pos hm, if_pos ⟨List.mem_cons_of_mem _ hm.1, hm.2⟩]
      · rw [if_neg hm, if_neg (fun z => hm ⟨(List.mem_cons.mp z.1).resolve_left (fun q => hv q.symm), z.2⟩)]
theorem OffS.wipe {L vs : List Nat} {σ σ' : L2.St} (h : OffS L σ σ') (hL : ∀ j ∈ L, j ∈ vs) : L2.wipe σ' vs = L2.wipe σ vs := by
  apply List.ext_getElem?
  intro i
  rw [wipe_get, wipe_get, h.1]
  by_cases hm : i ∈ vs ∧ i < σ.length
  · rw [if_pos hm, if_pos hm]
  · rw [if_neg hm, if_neg hm]
    by_cases hi : i ∈ L
    · have : ¬ i < σ.length := fun z => hm ⟨hL i hi, z⟩
      rw [List.getElem?_eq_none (show σ'.length ≤ i by rw [h.1]; omega), List.getElem?_eq_none (show σ.length ≤ i by omega)]
    · exact h.2 i hi
theorem wipe_wipe {σ : L2.St} {vs : List Nat} : wipe (wipe σ vs) vs = wipe σ vs := by
  apply List.ext_getElem?
  intro i
  rw [wipe_get, wipe_length]
  by_cases hm : i ∈ vs ∧ i < σ.length
  · rw [if_pos hm, wipe_get, if_pos hm]
  · rw [if_neg hm]
def WTg (S : Sta) (tg : Expr) (L : List Nat) (ρ : Rho) (d : PyData) (K : Rho → Prop) : Prop :=
  ∀ X, Fits S X → ∀ H0 σ G R H, EnvR S.K H0 ρ σ G R H → ∀ v, Dd G v d → ∀ Qσ : L2.St → Hp → Prop, (∀ ρ' σ', K ρ' → EnvR S.K H0 ρ' σ' G R H → OffS L σ σ' → Qσ σ' H) → tUG X tg v σ H Qσ
theorem offS_set {L : List Nat} {σ : L2.St} {i : Nat} {x : Option V} (h : i ∈ L) : OffS L σ (σ.set i x) := ⟨by rw [List.length_set], fun j hj => List.getElem?_set_ne (fun q => hj (by rw [← q]; exact h))⟩
theorem OffS.trans {L : List Nat} {σ σ' σ'' : L2.St} (a : OffS L σ σ') (b : OffS L σ' σ'') : OffS L σ σ'' := ⟨b.1.trans a.1, fun i hi => (b.2 i hi).trans (a.2 i hi)⟩
theorem wtg_name (i : Nat) {d : PyData} {K : Rho → Prop} (hN : S.N[i]? = some x) (hl : L2.Loc S.sc x) (hf : S.fn x = true ∨ S.sc.names.lookup x = some .local) (k : K (ρ.set i (some (.dat d)))) : WTg S (.Name x p) [i] ρ d K := by
  intro X f H0 σ G R H E v dd Qσ kq pins s u I r
  refine (pg_name (i := i) f.nd (by rw [f.N]; exact hN) (by unfold L2.Loc; rw [f.sc]; exact hl) (hf.elim (fun z => .inl (f.fn _ z)) (fun z => .inr (by rw [f.sc]; exact z)))).run pins s σ H v u Qσ I r ?_
  exact kq _ _ k (E.setD i dd) (offS_set (by simp))
theorem wtg_pair (i j : Nat) {y : Str} {py : Pos} {kt : Nat} {d1 d2 : PyData} {K : Rho → Prop} (hN : S.N[i]? = some x) (hl : L2.Loc S.sc x) (hf : S.fn x = true ∨ S.sc.names.lookup x = some .local)
    (hN' : S.N[j]? = some y) (hl' : L2.Loc S.sc y) (hf' : S.fn y = true ∨ S.sc.names.lookup y = some .local) (k : K ((ρ.set i (some (.dat d1))).set j (some (.dat d2)))) : WTg S (.Tuple [.Name x p, .Name y py] kt pos) [i, j] ρ (.tuple [d1, d2]) K := by
  intro X f H0 σ G R H E v dd Qσ kq pins s u I r
  have g1 := pg_name (X := X) (pos := p) (i := i) f.nd (by rw [f.N]; exact hN) (by unfold L2.Loc; rw [f.sc]; exact hl) (hf.elim (fun z => .inl (f.fn _ z)) (fun z => .inr (by rw [f.sc]; exact z)))
  have g2 := pg_name (X := X) (pos := py) (i := j) f.nd (by rw [f.N]; exact hN') (by unfold L2.Loc; rw [f.sc]; exact hl') (hf'.elim (fun z => .inl (f.fn _ z)) (fun z => .inr (by rw [f.sc]; exact z)))
  cases dd with
  | @tup l vs _ h q =>
    obtain ⟨v1, v2, rfl, q1, q2⟩ : ∃ v1 v2, vs = [v1, v2] ∧ Dd G v1 d1 ∧ Dd G v2 d2 := by
      cases q with
      | cons h1 t =>
        cases t with
        | cons h2 t =>
          cases t
          exact ⟨_, _, rfl, h1, h2⟩
    refine (pg_tup f.calm (pgs_cons g1 (pgs_cons g2 pgs_nil))).run pins s σ H _ u Qσ I r ⟨l, [v1, v2], rfl, SqT.of (E.wd.gh _ _ h), rfl, v1, [v2], rfl, v2, [], rfl, rfl, ?_⟩
    exact kq _ _ k ((E.setD i q1).setD j q2) ((offS_set (by simp)).trans (offS_set (by simp)))
end
end Tee
namespace Tee
open PySem PySem.Spec PyProof.Rows L2
theorem Stp.off {G R H G2 R2 H2 : Hp} (s : Stp G R H G2 R2 H2) {D : Addr} {o : HO} (h : H D = none) (hg : G2 D = none) (hr : R2 D = none) : Stp G R H G2 R2 (upd H2 D o) := by
  have nh : ∀ b u, H b = some u → b ≠ D := fun b u e => ne_of_none e h
  have ng : ∀ b u, G2 b = some u → b ≠ D := fun b u e => ne_of_none e hg
  have nr : ∀ b u, R2 b = some u → b ≠ D := fun b u e => ne_of_none e hr
  exact ⟨⟨fun b u e => by rw [upd_ne (ng b u e)]; exact s.wd.gh b u e, fun b u e => by rw [upd_ne (nr b u e)]; exact s.wd.rh b u e, s.wd.dis⟩, fun b u n e => by rw [upd_ne (nh b u e)]; exact s.keep b u n e,
    fun b u e => by rw [upd_ne (nh b u e)]; exact s.dom b u e, s.gg, s.gnew, s.rnew, s.rel⟩
theorem Stp.apart {G R H G2 R2 H2 : Hp} (s : Stp G R H G2 R2 H2) {D : Addr} {o : HO} (h : H D = some o) (hg : G D = none) (hr : R D = none) : H2 D = some o ∧ G2 D = none ∧ R2 D = none := by
  refine ⟨s.keep D o hr h, ?_, ?_⟩
  · cases q : G2 D with
    | none => rfl
    | some u => have := s.gnew D u q hg; rw [h] at this; cases this
  · cases q : R2 D with
    | none => rfl
    | some u => have := s.rnew D u q hr; rw [h] at this; cases this
def wipeR (ρ : Rho) : List Nat → Rho
  | [] => ρ
  | v :: vs => (wipeR ρ vs).set v none
theorem EnvR.wipe {K : PySem.W.Frag} {H0 : Hp} {ρ : Rho} {σ : L2.St} {G R H : Hp} (E : EnvR K H0 ρ σ G R H) : ∀ vs, EnvR K H0 (wipeR ρ vs) (L2.wipe σ vs) G R H
  | [] => E
  | v :: vs => (E.wipe vs).drop v none
abbrev Sta.blk (S : Sta) (scope : Scope) : Sta := { S with sc := relS scope S.sc, fn := fun x => scope.names.lookup x == some .cell }
theorem Fits.blk {S : Sta} {X : Cx} (f : Fits S X) (s : Shared) (H : Hp) (scope : Scope) (C : Addr) (cl : List (Str × Addr)) (fp : List Addr) : Fits (S.blk scope) (X.blk s H scope (compEnvC scope cl C X.env) fp) :=
  ⟨f.prog, f.w, f.K, f.mg, f.base, f.N, by show relS scope X.env.scope = _; rw [f.sc], fun x h => h, f.calm, f.gd, f.room, f.sys, f.nd, PassesOwn.never⟩
def WTs (S : Sta) (ifs : List Expr) (ρ : Rho) (Q : Bool → Prop) : Prop :=
  match ifs with
  | [] => Q true
  | [t] => WT S t ρ Q
  | _ => False
section
variable {S : Sta} {ρ : Rho} {Q : PyData → Prop} {elt tg iter a b c e : Expr} {es rest ifs : List Expr} {x : Str} {p pos : Pos}
def tUB (X : Cx) (scope : Scope) (e : Expr) : TE := fun σ H Q => ∀ (s : Shared) (H1 : Hp) (C : Addr) (cl : List (Str × Addr)) (fp : List Addr), tU (X.blk s H1 scope (compEnvC scope cl C X.env) fp) e σ H Q
def tUTB (X : Cx) (scope : Scope) (ifs : List Expr) : TT := fun σ H Q => match ifs with
  | [] => Q true H
  | [t] => ∀ (s : Shared) (H1 : Hp) (C : Addr) (cl : List (Str × Addr)) (fp : List Addr), tUT (X.blk s H1 scope (compEnvC scope cl C X.env) fp) t σ H Q
  | _ => False
def tUGB (X : Cx) (scope : Scope) (tg : Expr) : TG := fun v σ H Q => ∀ (s : Shared) (H1 : Hp) (C : Addr) (cl : List (Str × Addr)) (fp : List Addr), tUG (X.blk s H1 scope (compEnvC scope cl C X.env) fp) tg v σ H Q
theorem lc_read {scope : Scope} {own : List (Str × Nat)} {L : List Nat} {X : Cx} (f : Fits S X) (hL : ∀ j ∈ L, j ∈ own.map (·.2)) (hifs : ifs.length ≤ 1) {H0 : Hp} {σ : L2.St} {G R H : Hp} (E : EnvR S.K H0 ρ σ G R H)
    (hi : WI S tg iter ρ fun ds => ds.length ≤ 1000000 ∧ ∃ J : Nat → List PyData → Prop, J 0 [] ∧
      (∀ i d acc, ds[i]? = some d → J i acc → WTg (S.blk scope) tg L (wipeR ρ (own.map (·.2))) d fun ρ' => WTs (S.blk scope) ifs ρ' fun k =>
        (k = true → WE (S.blk scope) elt ρ' fun y => J (i + 1) (acc ++ [y])) ∧ (k = false → J (i + 1) acc)) ∧ ∀ acc, J ds.length acc → Q (.list acc)) :
    ∃ wi, PI X tg iter wi ∧ ∀ QV : VK, (∀ acc D vs G' R' H', Q (.list acc) → H D = none → Stp G R H G' R' H' → H' D = some (.lst vs) → G' D = none → R' D = none → DdAll G' vs acc → Beside ρ σ D → QV (.ref D) H') →
      tLc wi (tUGB X scope tg) (tUTB X scope ifs) (tUB X scope elt) (own.map (·.2)) σ H QV := by
  obtain ⟨wi, pi, hw⟩ := hi X f H0 σ G R H E
  refine ⟨wi, pi, fun QV k => hw _ fun ds J G2 R2 H2 q st good => ?_⟩
  obtain ⟨hz, Jv, j0, jt, je⟩ := q
  intro D hD
  have E2 := E.step st
  have g2 : G2 D = none := by
    cases z : G2 D with
    | none => rfl
    | some u => have := st.wd.gh _ _ z; rw [hD] at this; cases this
  have r2 : R2 D = none := by
    cases z : R2 D with
    | none => rfl
    | some u => have := st.wd.rh _ _ z; rw [hD] at this; cases this
  have hH : H D = none := by
    cases z : H D with
    | none => rfl
    | some u => obtain ⟨u2, y⟩ := st.dom _ _ z; rw [hD] at y; cases y
  have bes : Beside ρ σ D := E2.beside hD
  -- what holds ahead of turn i
  refine ⟨fun i m H' => m = ds.length - i ∧ i ≤ ds.length ∧ ∃ acc vs G' R', Jv i acc ∧ acc.length ≤ i ∧ Stp G2 R2 H2 G' R' H' ∧ EnvR S.K H0 ρ σ G' R' H' ∧ H' D = some (.lst vs) ∧ G' D = none ∧ R' D = none ∧ DdAll G' vs acc,
    ⟨ds.length, by omega, Nat.zero_le _, [], [], G2, R2, j0, Nat.le_refl _, (Stp.refl st.wd).off hD g2 r2, E2.off g2 r2 bes, upd_same, g2, r2, .nil⟩, ?_⟩
  rintro i m H' ⟨rfl, hi, acc, vs, G', R', hJ, hacc, s', E', hd', gd', rd', dd'⟩
  obtain ⟨gd1, gd2⟩ := good G' R' H' s'.gg E'.wd i
  by_cases hlt : i < ds.length
  · obtain ⟨hgo, hy⟩ := gd1 hlt
    refine .inr ⟨hgo, fun H'' => ∃ acc vs G' R', Jv (i + 1) acc ∧ acc.length ≤ i + 1 ∧ Stp G2 R2 H2 G' R' H'' ∧ EnvR S.K H0 ρ σ G' R' H'' ∧ H'' D = some (.lst vs) ∧ G' D = none ∧ R' D = none ∧ DdAll G' vs acc,
      fun H'' hn => ⟨ds.length - (i + 1), by omega, rfl, hlt, hn⟩, fun v H'' hv => ?_⟩
    obtain ⟨G3, d, s3, ed, dv⟩ := hy v H'' hv
    obtain ⟨hd3, gd3, rd3⟩ := s3.apart hd' gd' rd'
    have E3 := E'.step s3
    have EB := E3.wipe (own.map (·.2))
    intro s1 H1 C cl fp
    have fb := f.blk s1 H1 scope C cl fp
    refine (jt i d acc ed hJ) _ fb H0 _ G3 R' H'' EB v dv _ fun ρ' σ' hK E4 off => ⟨?_, ?_⟩
    · rw [off.wipe hL, wipe_wipe]
    · -- the test, then the element
      have go : ∀ (b : Bool) G4 R4 H4, ((b = true → WE (S.blk scope) elt ρ' fun y => Jv (i + 1) (acc ++ [y])) ∧ (b = false → Jv (i + 1) acc)) → Stp G3 R' H'' G4 R4 H4 →
          if b = true then tUB X scope elt σ' H4 fun y H5 => ∃ acc, H5 D = some (.lst acc) ∧ acc.length < sizeLine ∧
            (∃ acc' vs G' R', Jv (i + 1) acc' ∧ acc'.length ≤ i + 1 ∧ Stp G2 R2 H2 G' R' (upd H5 D (.lst (acc ++ [y]))) ∧ EnvR S.K H0 ρ σ G' R' (upd H5 D (.lst (acc ++ [y]))) ∧ (upd H5 D (.lst (acc ++ [y]))) D = some (.lst vs) ∧ G' D = none ∧ R' D = none ∧ DdAll G' vs acc')
          else ∃ acc vs G' R', Jv (i + 1) acc ∧ acc.length ≤ i + 1 ∧ Stp G2 R2 H2 G' R' H4 ∧ EnvR S.K H0 ρ σ G' R' H4 ∧ H4 D = some (.lst vs) ∧ G' D = none ∧ R' D = none ∧ DdAll G' vs acc := by
        intro b G4 R4 H4 hb s4
        obtain ⟨hd4, gd4, rd4⟩ := s4.apart hd3 gd3 rd3
        cases b with
        | true =>
          rw [if_pos rfl]
          intro s1 H1 C cl fp
          refine (hb.1 rfl) _ (f.blk s1 H1 scope C cl fp) H0 σ' G4 R4 H4 (E4.step s4) _ fun y w G5 R5 H5 hj s5 dy => ?_
          obtain ⟨hd5, gd5, rd5⟩ := s5.apart hd4 gd4 rd4
          have s35 := (s3.trans s4).trans s5
          have len1 : vs.length < sizeLine := by
            rw [dd'.len]
            exact Nat.lt_of_le_of_lt (show acc.length ≤ 1000000 by omega) (by decide)
          refine ⟨vs, hd5, len1, acc ++ [y], vs ++ [w], G5, R5, hj, by rw [List.length_append]; exact Nat.succ_le_succ hacc, (s'.trans s35).off hD gd5 rd5, ((E'.step s35)).off gd5 rd5 bes, upd_same, gd5, rd5, ?_⟩
          exact (DdAll.mono s35.gg _ _ dd').app (.cons dy .nil)
        | false =>
          rw [if_neg (by decide)]
          have s34 := s3.trans s4
          exact ⟨acc, vs, G4, R4, hb.2 rfl, by omega, s'.trans s34, E'.step s34, hd4, gd4, rd4, DdAll.mono s34.gg _ _ dd'⟩
      cases ifs with
      | nil => exact go true G3 R' H'' hK (Stp.refl E3.wd)
      | cons t r =>
        cases r with
        | nil =>
          intro s1 H1 C cl fp
          exact hK _ (f.blk s1 H1 scope C cl fp) H0 σ' G3 R' H'' E4 _ fun b G4 R4 H4 hb s4 => go b G4 R4 H4 hb s4
        | cons t2 r2 => exact absurd hifs (by simp)
  · have e : i = ds.length := by omega
    subst e
    exact .inl ⟨gd2 (Nat.le_refl _), k acc D vs G' R' H' (je acc hJ) hH (st.trans s') hd' gd' rd' dd' bes⟩
theorem lc_pe {scope : Scope} {own : List (Str × Nat)} {X : Cx} (f : Fits S X) (ok : blkC S.N S.sc scope own = true) (hifs : ifs.length ≤ 1) {wi : TI} (pi : PI X tg iter wi) (hs : ∀ env x, foldedSetIterable iter env x = pure x) :
    PE X (.ListComp elt [⟨tg, iter, ifs, 0⟩] scope pos) (tLc wi (tUGB X scope tg) (tUTB X scope ifs) (tUB X scope elt) (own.map (·.2))) := by
  refine pe_lc f.calm f.nd pi (blkOk_by (by rw [f.N, f.sc]; exact ok)) (fun s H C cl fp => ⟨fun pins s' σ H v u Q I r h => h s _ C cl fp pins s' u I r⟩) (fun s H C cl fp => ?_) (fun s H C cl fp => ⟨fun pins s' σ H Q I h => h s _ C cl fp pins s' I⟩) (hs _)
  cases ifs with
  | nil => exact pts_nil
  | cons t r =>
    cases r with
    | nil => exact pts_one ⟨fun pins s' σ H Q I h => h s _ C cl fp pins s' I⟩
    | cons t2 r2 => exact absurd hifs (by simp)
end
end Tee
namespace Oak
open PySem PySem.Spec PyProof.Rows L2
open Tee (Dd DdAll ScrL SysAt tU tUT tUW tUS pe_U pt_U pw_U pss_U PlusD MinusD TimesD FdivD ModD PowD CmpD rCmp opr_cmp isNone Wd Od KD Stp)
def B1 (S : Tee.Sta) (id : String) (D : PyData → (PyData → Prop) → Prop) : Prop := ∃ r : Cx → List V → Hp → VK → Prop, (∀ X, Tee.Fits S X → CallR X (.builtin id) (r X)) ∧
  ∀ X, Tee.Fits S X → ∀ G R H v d (Q : PyData → Prop) (QV : VK), Wd G R H → Od G R H v d → D d Q → KD G R H Q QV → r X [v] H QV
def T1 (S : Tee.Sta) (id : String) (D : PyData → (PyData → Prop) → Prop) : Prop := ∃ r : Cx → List V → Hp → VK → Prop, (∀ X, Tee.Fits S X → CallR X (.type id) (r X)) ∧
  ∀ X, Tee.Fits S X → ∀ G R H v d (Q : PyData → Prop) (QV : VK), Wd G R H → Od G R H v d → D d Q → KD G R H Q QV → r X [v] H QV
def B2 (S : Tee.Sta) (id : String) (D : PyData → PyData → (PyData → Prop) → Prop) : Prop := ∃ r : Cx → List V → Hp → VK → Prop, (∀ X, Tee.Fits S X → CallR X (.builtin id) (r X)) ∧
  ∀ X, Tee.Fits S X → ∀ G R H v u d d' (Q : PyData → Prop) (QV : VK), Wd G R H → Od G R H v d → Od G R H u d' → D d d' Q → KD G R H Q QV → r X [v, u] H QV
theorem ok_LenD {S : Tee.Sta} : B1 S "len" Tee.LenD := ⟨_, (fun X f => call_len_seq), fun X f G R H v d Q QV w o q kq => by
    unfold Tee.LenD at q
    split at q
    · obtain ⟨l, vs, rfl, h1, r, _⟩ := o.list w
      exact ⟨l, vs, rfl, .inl (SqL.of h1), by rw [r.len]; exact Tee.same w kq (.int _) q⟩
    · obtain ⟨l, vs, rfl, h1, r, _⟩ := o.tup w
      exact ⟨l, vs, rfl, .inr (SqT.of h1), by rw [r.len]; exact Tee.same w kq (.int _) q⟩
    · exact q.elim⟩
theorem ok_SumD {S : Tee.Sta} : B1 S "sum" Tee.SumD := ⟨_, (fun X f => cr_sum f.calm), fun X f G R H v d Q QV w o q kq => by
    obtain ⟨ns, rfl, q⟩ := q
    obtain ⟨l, vs, rfl, h1, r, _⟩ := o.list w
    have e := Tee.DdAll.intsV ns r
    subst e
    exact ⟨l, ns, rfl, SqL.of h1, Tee.same w kq (.int _) q⟩⟩
theorem ok_MaxD {S : Tee.Sta} : B1 S "max" Tee.MaxD := ⟨_, (fun X f => cr_max f.calm), fun X f G R H v d Q QV w o q kq => by
    obtain ⟨ns, rfl, h0, q⟩ := q
    obtain ⟨l, vs, rfl, h1, r, _⟩ := o.list w
    have e := Tee.DdAll.intsV ns r
    subst e
    exact ⟨l, ns, rfl, SqL.of h1, h0, fun m hm hle => Tee.same w kq (.int _) (q m hm hle)⟩⟩
theorem ok_MinD {S : Tee.Sta} : B1 S "min" Tee.MinD := ⟨_, (fun X f => cr_min f.calm), fun X f G R H v d Q QV w o q kq => by
    obtain ⟨ns, rfl, h0, q⟩ := q
    obtain ⟨l, vs, rfl, h1, r, _⟩ := o.list w
    have e := Tee.DdAll.intsV ns r
    subst e
    exact ⟨l, ns, rfl, SqL.of h1, h0, fun m hm hle => Tee.same w kq (.int _) (q m hm hle)⟩⟩
theorem ok_Max2D {S : Tee.Sta} : B2 S "max" Tee.Max2D := ⟨_, (fun X f => call_max2 f.calm), fun X f G R H v u d d' Q QV w o1 o2 q kq => by
    unfold Tee.Max2D at q
    split at q
    · exact ⟨_, _, by rw [o1.int, o2.int], Tee.same w kq (.int _) q⟩
    · exact q.elim⟩
theorem ok_Min2D {S : Tee.Sta} : B2 S "min" Tee.Min2D := ⟨_, (fun X f => call_min2 f.calm), fun X f G R H v u d d' Q QV w o1 o2 q kq => by
    unfold Tee.Min2D at q
    split at q
    · exact ⟨_, _, by rw [o1.int, o2.int], Tee.same w kq (.int _) q⟩
    · exact q.elim⟩
theorem ok_IntD {S : Tee.Sta} : T1 S "int" Tee.IntD := ⟨_, (fun X f => call_int1), fun X f G R H v d Q QV w o q kq => by
    unfold Tee.IntD at q
    split at q
    · exact .inl ⟨_, by rw [o.int], Tee.same w kq (.int _) q⟩
    · exact .inr ⟨_, by rw [o.bl], Tee.same w kq (.int _) q⟩
    · exact q.elim⟩
theorem ok_AllD {S : Tee.Sta} : B1 S "all" Tee.AllD := ⟨_, (fun X f => cr_all f.calm), fun X f G R H v d Q QV w o q kq => by
    obtain ⟨ns, rfl, q⟩ := q
    obtain ⟨l, vs, rfl, h1, r, _⟩ := o.list w
    have e := Tee.DdAll.blsV ns r
    subst e
    exact ⟨l, ns, rfl, SqL.of h1, Tee.same w kq (.bl _) q⟩⟩
theorem ok_AnyD {S : Tee.Sta} : B1 S "any" Tee.AnyD := ⟨_, (fun X f => cr_any f.calm), fun X f G R H v d Q QV w o q kq => by
    obtain ⟨ns, rfl, q⟩ := q
    obtain ⟨l, vs, rfl, h1, r, _⟩ := o.list w
    have e := Tee.DdAll.blsV ns r
    subst e
    exact ⟨l, ns, rfl, SqL.of h1, Tee.same w kq (.bl _) q⟩⟩
def Sta.tee (S : Sta) : Tee.Sta := ⟨S.P, S.w, S.K, S.mg, S.base, S.N, S.sc, S.fn, S.k⟩
theorem Fits.tee {S : Sta} {X : Cx} (f : Fits S X) : Tee.Fits S.tee X := ⟨f.prog, f.w, f.K, f.mg, f.base, f.N, f.sc, f.fn, f.calm, f.gd, f.room, f.sys, f.nd, f.own⟩
section
variable {K : PySem.W.Frag} {G G' H H' : Hp} {B : Base} {ρ : Rho} {σ : L2.St} {τ : List Cell} {rs : List Addr} {t : T} {v : V} {i : Nat}
theorem EnvR.grow (E : EnvR K B ρ σ τ rs G H) (h : Same H H') : EnvR K B ρ σ τ rs G H' := by
  obtain ⟨f, h1, h2, h3⟩ := E.own
  have mine : ∀ a, Mine B G H a → Mine B G H' a := fun a m => ⟨m.ng, let ⟨u, z⟩ := m.ex; ⟨u, h a u z⟩, m.rg⟩
  exact ⟨fun b o e => h b o (E.sm b o e), E.ln, E.all, ⟨f, h1.mono (Same.refl G) (fun a q => let ⟨u, z⟩ := (h2 a q).ex; by rw [z]; exact h a u z) (fun _ q => q), fun a q => mine a (h2 a q), h3⟩, fun a ha => mine a (E.rs a ha),
    fun b o n e => h b o (E.keep b o n e), fun b o e => let ⟨u, z⟩ := E.dom b o e; ⟨u, h b u z⟩, E.gg, E.gnew, E.fx⟩
theorem EnvR.stp {R R' : Hp} (E : EnvR K B ρ σ τ [] G H) (s : Stp G (fun _ => none) H G' R' H') : EnvR K B ρ σ τ [] G' H' := by
  have h : Same H H' := fun b o e => s.keep b o rfl e
  obtain ⟨f, h1, h2, h3⟩ := E.own
  have h0 : ∀ b, H b = none → B.H0 b = none := fun b e => by
    cases q : B.H0 b with
    | none => rfl
    | some u => obtain ⟨w, z⟩ := E.dom b u q; rw [e] at z; cases z
  have mine : ∀ a, Mine B G H a → Mine B G' H' a := fun a m => by
    obtain ⟨w, z⟩ := m.ex
    refine ⟨?_, ⟨w, h a w z⟩, m.rg⟩
    cases q : G' a with
    | none => rfl
    | some u =>
      have := s.gnew a u q m.ng
      rw [this] at z
      cases z
  exact ⟨s.wd.gh, E.ln, E.all, ⟨f, h1.mono s.gg (fun a q => let ⟨u, z⟩ := (h2 a q).ex; by rw [z]; exact h a u z) (fun _ q => q), fun a q => mine a (h2 a q), h3⟩, fun a ha => (by cases ha),
    fun b o n e => h b o (E.keep b o n e), fun b o e => let ⟨u, z⟩ := E.dom b o e; ⟨u, h b u z⟩, fun b o e => s.gg b o (E.gg b o e), fun b o e n => by
      cases q : G b with
      | some u => exact E.gnew b u q n
      | none => exact .inl (h0 b (s.gnew b o e q)), E.fx⟩
def emb : T → Option Tee.SV
  | .sh d => some (.dat d)
  | .lst ts => (shs ts).map fun ds => .own ds
  | .scr ns => some (.scr ns)
  | _ => none
def embR (ρ : Rho) : Tee.Rho := ρ.map fun q => q.bind emb
theorem embR_at {q : Option Tee.SV} {sv : Tee.SV} (h : (embR ρ)[i]? = some q) (e : q = some sv) : ∃ t, ρ[i]? = some (some t) ∧ emb t = some sv := by
  unfold embR at h
  rw [List.getElem?_map] at h
  cases z : ρ[i]? with
  | none => rw [z] at h; cases h
  | some y =>
    rw [z] at h
    subst e
    cases y with
    | none => cases h
    | some t => exact ⟨t, rfl, Option.some.inj h⟩
theorem EnvR.two_own {j : Nat} {ts us : List T} {l : Addr} (E : EnvR K B ρ σ τ [] G H) (hi : ρ[i]? = some (some (.lst ts))) (hj : ρ[j]? = some (some (.lst us))) (si : σ[i]? = some (some (.ref l))) (sj : σ[j]? = some (some (.ref l))) : i = j := by
  by_cases q : i = j
  · exact q
  · obtain ⟨v, hv, E2⟩ := E.take hi
    rw [si] at hv
    cases hv
    obtain ⟨w, hw, E3⟩ := E2.take (i := j) (t := .lst us) (by rw [List.getElem?_set_ne q]; exact hj)
    rw [sj] at hw
    cases hw
    obtain ⟨f1, f2, h1, h2, h3, _⟩ := E3.head
    obtain ⟨g1, g2, k1, _, _, k4, _⟩ := Cells.cons_iff.mp (h2.perm List.perm_middle)
    unfold qe0 at h1 k1
    obtain ⟨l1, _, _, e1, _, x1, _⟩ := h1
    obtain ⟨l2, _, _, e2, _, x2, _⟩ := k1
    cases e1
    cases e2
    exact absurd (k4 _ x2) (h3 _ x1)
theorem EnvR.tee (E : EnvR K B ρ σ τ [] G H) : Tee.EnvR K (fun _ => none) (embR ρ) σ G (fun _ => none) H := by
  refine ⟨⟨E.sm, fun _ _ e => (nomatch e), fun _ _ e => (nomatch e)⟩, by unfold embR; rw [List.length_map]; exact E.len, fun i q e => ?_, fun i j o o' v v' a h1 h2 s1 s2 m1 m2 => ?_⟩
  · cases q with
    | none => trivial
    | some sv =>
      obtain ⟨t, ht, he⟩ := embR_at e rfl
      obtain ⟨v, hv, E2⟩ := E.take ht
      rw [hv]
      obtain ⟨f1, f2, k1, _, _, k4, _⟩ := E2.head
      cases t with
      | sh d =>
        cases he
        unfold qe0 at k1
        exact k1
      | scr ns =>
        cases he
        unfold qe0 at k1
        obtain ⟨a, e1, z⟩ := k1
        have e1 : v = .ref a := e1
        subst e1
        exact z
      | lst ts =>
        have he : (shs ts).map (fun ds => Tee.SV.own ds) = some sv := he
        cases q : shs ts with
        | none => rw [q] at he; cases he
        | some ds =>
          rw [q] at he
          cases he
          unfold qe0 at k1
          obtain ⟨l, vs, g, e1, h1, h2, _, _, h5⟩ := k1
          have e1 : v = .ref l := e1
          subst e1
          refine ⟨⟨vs, h1, shs_at q h5⟩, fun a ha => ?_⟩
          have : a = l := List.mem_singleton.mp ha
          subst this
          have m := k4 a (.inl h2)
          exact ⟨m.ng, rfl, rfl, m.ex⟩
      | _ => cases he
  · obtain ⟨t, ht, he⟩ := embR_at h1 rfl
    obtain ⟨u, hu, hf⟩ := embR_at h2 rfl
    cases t with
    | lst ts =>
      cases u with
      | lst us =>
        have he : (shs ts).map (fun ds => Tee.SV.own ds) = some (.obj o) := he
        have hf : (shs us).map (fun ds => Tee.SV.own ds) = some (.obj o') := hf
        cases q : shs ts with
        | none => rw [q] at he; cases he
        | some ds =>
          cases q' : shs us with
          | none => rw [q'] at hf; cases hf
          | some es =>
            rw [q] at he
            rw [q'] at hf
            cases he
            cases hf
            cases v with
            | ref l =>
              cases v' with
              | ref l' =>
                have e1 : a = l := List.mem_singleton.mp m1
                have e2 : a = l' := List.mem_singleton.mp m2
                subst e1
                subst e2
                exact E.two_own ht hu s1 s2
              | _ => cases m2
            | _ => cases m1
      | _ => cases hf
    | _ => cases he
end
section
variable {S : Sta} {ρ : Rho} {Q : T → Rho → Prop} {a b c e : Expr} {es rest : List Expr} {x : Str} {p pos : Pos}
end
end Oak
namespace Tee
open PySem PySem.Spec PyProof.Rows L2
inductive Out where
  | nx (ρ : Rho) | rt (d : PyData) | bk (ρ : Rho) | ct (ρ : Rho) | ro (xs : List PyData) | rn (as : List Addr) (its : List (PyData ⊕ List PyData))
structure EndsOk (K : PySem.W.Frag) (G0 R0 H0 : Hp) (R : Out → Prop) (D : Ends) : Prop where
  nx : ∀ ρ σ G Rr H, R (.nx ρ) → Stp G0 R0 H0 G Rr H → EnvR K H0 ρ σ G Rr H → D.nx σ H
  rt : ∀ d v G Rr H, R (.rt d) → Stp G0 R0 H0 G Rr H → Dd G v d → D.rt v H
  bk : ∀ ρ σ G Rr H, R (.bk ρ) → Stp G0 R0 H0 G Rr H → EnvR K H0 ρ σ G Rr H → D.bk σ H
  ct : ∀ ρ σ G Rr H, R (.ct ρ) → Stp G0 R0 H0 G Rr H → EnvR K H0 ρ σ G Rr H → D.ct σ H
  ro : ∀ xs l vs G Rr H, R (.ro xs) → Stp G0 R0 H0 G Rr H → H l = some (.lst vs) → G l = none → Rr l = none → H0 l = none → DdAll G vs xs → D.rt (.ref l) H
  rn : ∀ as its v G Rr H, R (.rn as its) → Stp G0 R0 H0 G Rr H → OwnAt G H (.nst as its) v → (∀ a ∈ as, Free H0 G Rr H a) → D.rt v H
def tU1 (X : Cx) (st : Stmt) : TS := fun D σ H => ∀ pins s, Inv X pins σ H s → wpAny (model X.prog X.w) X.A (exec st X.env) (SP X pins D) X.xe s
theorem ps_U {X : Cx} {st : Stmt} : PS X st (tU1 X st) := ⟨fun pins s σ H D I h => h pins s I⟩
def WS (S : Sta) (sts : List Stmt) (ρ : Rho) (R : Out → Prop) : Prop :=
  ∀ X, Fits S X → ∀ G0 R0 H0 σ G Rr H, Stp G0 R0 H0 G Rr H → EnvR S.K H0 ρ σ G Rr H → ∀ D : Ends, EndsOk S.K G0 R0 H0 R D → tUS X sts D σ H
def W1 (S : Sta) (st : Stmt) (ρ : Rho) (R : Out → Prop) : Prop :=
  ∀ X, Fits S X → ∀ G0 R0 H0 σ G Rr H, Stp G0 R0 H0 G Rr H → EnvR S.K H0 ρ σ G Rr H → ∀ D : Ends, EndsOk S.K G0 R0 H0 R D → tU1 X st D σ H
def thenR (S : Sta) (rest : List Stmt) (R : Out → Prop) : Out → Prop
  | .nx ρ => WS S rest ρ R
  | .rt d => R (.rt d)
  | .bk ρ => R (.bk ρ)
  | .ct ρ => R (.ct ρ)
  | .ro xs => R (.ro xs)
  | .rn as its => R (.rn as its)
section
variable {S : Sta} {ρ : Rho} {R : Out → Prop} {a b c e iter tg : Expr} {sts rest body orelse : List Stmt} {st : Stmt} {x y : Str} {p px py pos : Pos}
theorem W1.by {X : Cx} {t : TS} (ps : PS X st t) {D : Ends} {σ : L2.St} {H : Hp} (h : t D σ H) : tU1 X st D σ H := fun pins s I => ps.run pins s σ H D I h
theorem ws_nil (r : R (.nx ρ)) : WS S [] ρ R := fun X f G0 R0 H0 σ G Rr H s0 E D ok pins s I => pss_nil.run pins s σ H D I (ok.nx _ _ _ _ _ r s0 E)
theorem ws_cons (h : W1 S st ρ (thenR S rest R)) : WS S (st :: rest) ρ R := by
  intro X f G0 R0 H0 σ G Rr H s0 E D ok pins s I
  refine (pss_cons ps_U pss_U).run pins s σ H D I (h X f G0 R0 H0 σ G Rr H s0 E _ ⟨fun ρ' σ' G' R' H' r s1 E1 => ?_, ok.rt, ok.bk, ok.ct, ok.ro, ok.rn⟩)
  exact r X f G0 R0 H0 σ' G' R' H' s1 E1 D ok
theorem EnvR.stay {K : PySem.W.Frag} {H0 : Hp} {σ : L2.St} {G Rr H G2 R2 H2 : Hp} (E : EnvR K H0 ρ σ G Rr H) (s : Stp G Rr H G2 R2 H2) : EnvR K H0 ρ σ G2 R2 H2 := E.step s
theorem w1_set (i : Nat) (h : WE S e ρ fun d => R (.nx (ρ.set i (some (.dat d))))) (hN : S.N[i]? = some x) (hl : L2.Loc S.sc x) (hf : S.fn x = true ∨ S.sc.names.lookup x = some .local) (hs : ∀ env, swapsWith e (some (.Name x p)) pos.line env = pure false := by intro _; rfl) :
    W1 S (.Assign [.Name x p] e pos) ρ R := by
  intro X f G0 R0 H0 σ G Rr H s0 E D ok
  refine W1.by (ps_set (i := i) f.nd (by rw [f.N]; exact hN) (by unfold L2.Loc; rw [f.sc]; exact hl) pe_U (hs _) (hf.elim (fun z => .inl (f.fn _ z)) (fun z => .inr (by rw [f.sc]; exact z)))) ?_
  exact h X f H0 σ G Rr H E _ fun d v G2 R2 H2 q st dd => ok.nx _ _ _ _ _ q (s0.trans st) ((E.step st).setD i dd)
theorem w1_setLc (i : Nat) {elt : Expr} {ifs : List Expr} {scope : Scope} (own : List (Str × Nat)) (L : List Nat)
    (hi : WI S tg iter ρ fun ds => ds.length ≤ 1000000 ∧ ∃ J : Nat → List PyData → Prop, J 0 [] ∧
      (∀ i d acc, ds[i]? = some d → J i acc → WTg (S.blk scope) tg L (wipeR ρ (own.map (·.2))) d fun ρ' => WTs (S.blk scope) ifs ρ' fun k =>
        (k = true → WE (S.blk scope) elt ρ' fun y => J (i + 1) (acc ++ [y])) ∧ (k = false → J (i + 1) acc)) ∧ ∀ acc, J ds.length acc → R (.nx (ρ.set i (some (.dat (.list acc))))))
    (hN : S.N[i]? = some x) (hk : S.sc.kind = .function) (hl : S.sc.names.lookup x = some .local) (hln : (px.line == p.line) = true := by rfl) (hany : (scope.names.any fun (n, k) => n == x && (k == .local || k == .cell)) = false := by decide +kernel)
    (hspos : pos.line = p.line ∨ True := by exact .inr trivial)
    (ok : blkC S.N S.sc scope own = true := by (try dsimp only); decide +kernel) (hL : ∀ j ∈ L, j ∈ own.map (·.2) := by decide) (hifs : ifs.length ≤ 1 := by first | exact Nat.le_refl _ | exact Nat.zero_le _) (hs : ∀ env x, foldedSetIterable iter env x = pure x := by intro _ _; rfl) :
    W1 S (.Assign [.Name x px] (.ListComp elt [⟨tg, iter, ifs, 0⟩] scope p) pos) ρ R := by
  intro X f G0 R0 H0 σ G Rr H s0 E D okD
  obtain ⟨wi, pi, rd⟩ := lc_read (Q := fun d => R (.nx (ρ.set i (some (.dat d))))) f hL hifs E hi
  have ps : PS X (.Assign [.Name x px] (.ListComp elt [⟨tg, iter, ifs, 0⟩] scope p) pos) (tAsg (tLc wi (tUGB X scope tg) (tUTB X scope ifs) (tUB X scope elt) (own.map (·.2))) (gName i)) := by
    refine ps_setLc f.calm f.nd (by rw [f.N]; exact hN) (by rw [f.sc]; exact hl) (sw_true (by rw [f.sc]; exact hk) (by rw [f.sc]; exact hl) hln hany) pi (blkOk_by (by rw [f.N, f.sc]; exact ok)) (fun s H C cl fp => ⟨fun pins s' σ H v u Q I r h => h s _ C cl fp pins s' u I r⟩) (fun s H C cl fp => ?_) (fun s H C cl fp => ⟨fun pins s' σ H Q I h => h s _ C cl fp pins s' I⟩) (hs _)
    cases ifs with
    | nil => exact pts_nil
    | cons t r =>
      cases r with
      | nil => exact pts_one ⟨fun pins s' σ H Q I h => h s _ C cl fp pins s' I⟩
      | cons t2 r2 => exact absurd hifs (by simp)
  refine W1.by ps (rd _ fun acc D vs G' R' H' q hD st hd gd rd' dd bes => ?_)
  have ng : ∀ b u, G' b = some u → b ≠ D := fun b u e => ne_of_none e gd
  have sm : Same G' (upd G' D (.lst vs)) := fun b u e => by rw [upd_ne (ng b u e)]; exact e
  have st2 : Stp G Rr H (upd G' D (.lst vs)) R' H' := by
    refine ⟨⟨fun b u e => ?_, st.wd.rh, fun b u e => ?_⟩, st.keep, st.dom, st.gg.trans sm, fun b u e n => ?_, st.rnew, st.rel⟩
    · by_cases z : b = D
      · subst z; rw [upd_same] at e; cases e; exact hd
      · rw [upd_ne z] at e; exact st.wd.gh b u e
    · rw [upd_ne (ne_of_none e rd')]; exact st.wd.dis b u e
    · by_cases z : b = D
      · subst z; exact hD
      · rw [upd_ne z] at e; exact st.gnew b u e n
  exact okD.nx _ _ _ _ _ q (s0.trans st2) ((E.step st2).setD i (.lst upd_same (DdAll.mono sm _ _ dd)))
def WF (S : Sta) (e : Expr) (ρ : Rho) (Q : List PyData → Prop) : Prop :=
  ∀ X, Fits S X → ∀ H0 σ G R H, EnvR S.K H0 ρ σ G R H → ∀ QV : VK,
    (∀ ds vs p G2 R2 H2, Q ds → Stp G R H G2 R2 H2 → H2 p = none → DdAll G2 vs ds → QV (.ref p) (upd H2 p (.lst vs))) → tU X e σ H QV
theorem WF.mono {Q Q' : List PyData → Prop} (h : WF S e ρ Q) (k : ∀ d, Q d → Q' d) : WF S e ρ Q' := fun X f H0 σ G R H E QV kq => h X f H0 σ G R H E QV fun d vs p G2 R2 H2 q => kq d vs p G2 R2 H2 (k d q)
theorem Stp.free {G0 R0 H0 G Rr H : Hp} (s0 : Stp G0 R0 H0 G Rr H) {q : Addr} (hq : H q = none) : H0 q = none ∧ G q = none ∧ Rr q = none := by
  refine ⟨?_, ?_, ?_⟩
  · cases z : H0 q with
    | none => rfl
    | some u => obtain ⟨u2, y⟩ := s0.dom _ _ z; rw [hq] at y; cases y
  · cases z : G q with
    | none => rfl
    | some u => have := s0.wd.gh _ _ z; rw [hq] at this; cases this
  · cases z : Rr q with
    | none => rfl
    | some u => have := s0.wd.rh _ _ z; rw [hq] at this; cases this
theorem own_at {K : PySem.W.Frag} {H0 : Hp} {σ : L2.St} {G Rr H : Hp} (E : EnvR K H0 ρ σ G Rr H) {i : Nat} {xs : List PyData} (hi : ρ[i]? = some (some (.own xs))) :
    ∃ l vs, σ[i]? = some (some (.ref l)) ∧ H l = some (.lst vs) ∧ G l = none ∧ Rr l = none ∧ H0 l = none ∧ DdAll G vs xs := by
  have z := E.slot i _ hi
  cases hs : σ[i]? with
  | none => rw [hs] at z; exact z.elim
  | some o =>
    cases o with
    | none => rw [hs] at z; exact z.elim
    | some v =>
      rw [hs] at z
      cases v with
      | ref l =>
        obtain ⟨⟨vs, h1, h5⟩, fr⟩ := z
        obtain ⟨h2, h3, h4, _⟩ := fr l (by simp [foot])
        exact ⟨l, vs, rfl, h1, h2, h3, h4, h5⟩
      | _ => exact z.1.elim
theorem w1_append (i : Nat) {xs : List PyData} {pa pc : Pos} (hr : ρ[i]? = some (some (.own xs))) (h : WE S e ρ fun d => xs.length < sizeLine ∧ R (.nx (ρ.set i (some (.own (xs ++ [d]))))))
    (hN : S.N[i]? = some x) (hv : Vis S.sc x) (hd : (x == ("__debug__" : Str)) = false := by decide) (hcd : (x == ("__classdict__" : Str)) = false := by decide)
    (he : ∀ env, starEach [e] env = (false, eval e env) :: starEach [] env := by intro _; rfl)
    (hfew : ∀ env, ((backTo pc (starEach [e] env)).all (fun x => !x.1) && (backToKw pc (keywordEach [] env)).all (fun x => x.1.isSome)
      && decide ([e].length + ([] : List Keyword).length + (if ([] : List Keyword).isEmpty then 0 else 1) < 30)) = true := by intro _; rfl)
    (hbase : ∀ env, attributeBase (.Name x px) "append" env (eval (.Name x px) env) = eval (.Name x px) env := by intro _; rfl) (hline : (pa.endLine == pc.line) = true := by rfl)
    (hsw : ∀ env, swapsWith (.Call (.Attribute (.Name x px) "append" pa) [e] [] pc) none pos.line env = pure false := by intro _; rfl) :
    W1 S (.Expr (.Call (.Attribute (.Name x px) "append" pa) [e] [] pc) pos) ρ R := by
  intro X f G0 R0 H0 σ G Rr H s0 E D ok
  refine W1.by (ps_expr (pe_bm PySem.F.plainAttrs_list PySem.F.slot_list_append PySem.F.type_list_append mt_append (pe_var (i := i) (by rw [f.N]; exact hN) (by rw [f.sc]; exact hv) hd hcd) (pa_cons pe_U pa_nil (he _)) (hbase _) (hfew _) hline (he _) (by rfl)) (hsw _)) ?_
  obtain ⟨l, vs, e1, h1, h2, h3, h4, h5⟩ := own_at E hr
  refine ⟨.ref l, e1, .inl ⟨rfl, _, SqL.of h1⟩, h X f H0 σ G Rr H E _ fun d v G2 R2 H2 q st dd => ?_⟩
  obtain ⟨k1, k2, k3⟩ := st.apart h1 h2 h3
  refine ⟨l, vs, v, rfl, rfl, k1, by rw [h5.len]; exact q.1, ok.nx _ _ _ _ _ q.2 ((s0.trans st).off h4 k2 k3) ((E.step st).chg hr e1 ((DdAll.mono st.gg _ _ h5).app (.cons dd .nil)))⟩
theorem w1_store (i : Nat) {xs : List PyData} {ps' : Pos} (hr : ρ[i]? = some (some (.own xs))) (h : WE S e ρ fun d => WO S b ρ fun dk => ∃ k j, dk = .int k ∧ ixN xs.length k = some j ∧ R (.nx (ρ.set i (some (.own (xs.set j d))))))
    (hN : S.N[i]? = some x) (hv : Vis S.sc x) (hd : (x == ("__debug__" : Str)) = false := by decide) (hcd : (x == ("__classdict__" : Str)) = false := by decide)
    (ha : ∀ env v, assign (.Subscript (.Name x px) b ps') env v = (do
      let ov ← holding [v] (eval (.Name x px) env)
      let iv ← holding [v, ov] (eval b env)
      standAt ps'
      holding [v, ov, iv] (setItem ov iv v)
      release [v, ov, iv] []) := by intro _ _; rfl)
    (hs : ∀ env, swapsWithSole [.Subscript (.Name x px) b ps'] e pos.line env = pure false := by intro _; rfl) (hw : ∀ env, swappedStores [.Subscript (.Name x px) b ps'] e env = pure none := by intro _; rfl)
    (h1' : ∀ env, (assignEach [.Subscript (.Name x px) b ps'] env).map (·.2) = [assign (.Subscript (.Name x px) b ps') env] := by intro _; rfl) :
    W1 S (.Assign [.Subscript (.Name x px) b ps'] e pos) ρ R := by
  intro X f G0 R0 H0 σ G Rr H s0 E D ok
  refine W1.by (ps_asg pe_U (pg_sub (pe_var (i := i) (by rw [f.N]; exact hN) (by rw [f.sc]; exact hv) hd hcd) pe_U set_list (ha _)) (hs _) (hw _) (h1' _)) ?_
  refine h X f H0 σ G Rr H E _ fun d v G2 R2 H2 hb st dd => ?_
  have E2 := E.step st
  obtain ⟨l, vs, e1, _, _, _, _, _⟩ := own_at E2 hr
  refine ⟨.ref l, e1, hb X f H0 σ G2 R2 H2 E2 _ fun dk u G3 R3 H3 q st3 o => ?_⟩
  obtain ⟨k, j, rfl, hj, q⟩ := q
  have E3 := E2.step st3
  obtain ⟨l', vs', e1', h1, h2, h3, h4, h5⟩ := own_at E3 hr
  rw [e1] at e1'
  cases e1'
  have s3 := (s0.trans st).trans st3
  exact ⟨l, vs', k, j, rfl, o.int, h1, by rw [h5.len]; exact hj, ok.nx _ _ _ _ _ q (s3.off h4 h2 h3) (E3.chg hr e1 (h5.setD (Dd.mono st3.gg _ _ dd) j))⟩
theorem w1_if (h : WT S c ρ fun k => (k = true → WS S body ρ R) ∧ (k = false → WS S orelse ρ R)) : W1 S (.If c body orelse pos) ρ R := by
  intro X f G0 R0 H0 σ G Rr H s0 E D ok
  refine W1.by (ps_if pt_U pss_U pss_U) (h X f H0 σ G Rr H E _ fun k G2 R2 H2 q st => ?_)
  cases k with
  | true =>
    rw [if_pos rfl]
    exact q.1 rfl X f G0 R0 H0 σ G2 R2 H2 (s0.trans st) (E.step st) D ok
  | false =>
    rw [if_neg (by decide)]
    exact q.2 rfl X f G0 R0 H0 σ G2 R2 H2 (s0.trans st) (E.step st) D ok
theorem w1_ret (h : WE S e ρ fun d => R (.rt d)) : W1 S (.Return (some e) pos) ρ R := by
  intro X f G0 R0 H0 σ G Rr H s0 E D ok
  exact W1.by (ps_ret pe_U) (h X f H0 σ G Rr H E _ fun d v G2 R2 H2 q st dd => ok.rt _ _ _ _ _ q (s0.trans st) dd)
theorem w1_retN (h : R (.rt .none)) : W1 S (.Return none pos) ρ R := by
  intro X f G0 R0 H0 σ G Rr H s0 E D ok
  exact W1.by ps_retN (ok.rt _ _ _ _ _ h s0 .non)
theorem w1_expr (h : WE S e ρ fun _ => R (.nx ρ)) (hs : ∀ env, swapsWith e none pos.line env = pure false := by intro _; rfl) : W1 S (.Expr e pos) ρ R := by
  intro X f G0 R0 H0 σ G Rr H s0 E D ok
  exact W1.by (ps_expr pe_U (hs _)) (h X f H0 σ G Rr H E _ fun d v G2 R2 H2 q st dd => ok.nx _ _ _ _ _ q (s0.trans st) (E.step st))
theorem Stp.lift {G Rr H G2 R2 H2 : Hp} (s : Stp G Rr H G2 R2 H2) : Stp G2 Rr H G2 R2 H2 := ⟨s.wd, s.keep, s.dom, Same.refl _, fun b o e n => absurd (e.symm.trans n) (by simp), s.rnew, s.rel⟩
theorem Stp.comp {G Rr H G2 R2 H2 G3 R3 H3 : Hp} (s : Stp G Rr H G2 R2 H2) (t : Stp G2 Rr H G3 R3 H3) : Stp G Rr H G3 R3 H3 :=
  ⟨t.wd, t.keep, t.dom, s.gg.trans t.gg, fun b o e n => by
    cases q : G2 b with
    | some u => exact s.gnew b u q n
    | none => exact t.gnew b o e q, t.rnew, t.rel⟩
theorem w1_for (L : List Nat) (hi : WI S tg iter ρ fun ds => ∃ J : Nat → Rho → Prop, J 0 ρ ∧
      (∀ i d ρ', ds[i]? = some d → J i ρ' → WTg S tg L ρ' d fun ρ2 => WS S body ρ2 fun o => match o with
        | .nx ρ3 => J (i + 1) ρ3
        | .ct ρ3 => J (i + 1) ρ3
        | .bk ρ3 => R (.nx ρ3)
        | .rt d => R (.rt d)
        | .ro xs => R (.ro xs)
        | .rn as its => R (.rn as its)) ∧ ∀ ρ', J ds.length ρ' → R (.nx ρ'))
    (hs : ∀ env x, foldedSetIterable iter env x = pure x := by intro _ _; rfl) : W1 S (.For tg iter body [] pos) ρ R := by
  intro X f G0 R0 H0 σ G Rr H s0 E D ok
  obtain ⟨wi, pi, hw⟩ := hi X f H0 σ G Rr H E
  refine W1.by (ps_for f.own f.calm pi pg_U pss_U (hs _)) (hw _ fun ds It0 G2 R2 H2 q st good => ?_)
  obtain ⟨J, j0, jt, je⟩ := q
  refine ⟨fun i m σ' H' => m = ds.length - i ∧ i ≤ ds.length ∧ ∃ ρ' G' R', J i ρ' ∧ Same G2 G' ∧ Stp G0 R0 H0 G' R' H' ∧ EnvR S.K H0 ρ' σ' G' R' H',
    ⟨ds.length, by omega, Nat.zero_le _, ρ, G2, R2, j0, Same.refl _, s0.trans st, E.step st⟩, ?_⟩
  rintro i m σ' H' ⟨rfl, hi', ρ', G', R', hJ, sg, s', E'⟩
  obtain ⟨gd1, gd2⟩ := good G' R' H' sg E'.wd i
  by_cases hlt : i < ds.length
  · obtain ⟨hgo, hy⟩ := gd1 hlt
    refine .inr ⟨hgo, fun σ'' H'' => ∃ ρ' G' R', J (i + 1) ρ' ∧ Same G2 G' ∧ Stp G0 R0 H0 G' R' H'' ∧ EnvR S.K H0 ρ' σ'' G' R' H'', fun σ'' H'' hn => ⟨ds.length - (i + 1), by omega, rfl, hlt, hn⟩, fun v H'' hv => ?_⟩
    obtain ⟨G3, d, s3, ed, dv⟩ := hy v H'' hv
    have sg3 : Same G2 G3 := sg.trans s3.gg
    refine (jt i d ρ' ed hJ) X f H0 σ' G3 R' H'' (E'.step s3) v dv _ fun ρ2 σ2 hK E4 off => ?_
    -- the turn, over the heap that stands still so far
    have s03 := s'.trans s3
    refine hK X f G3 R0 H0 σ2 G3 R' H'' s03.lift E4 _ ⟨fun ρ3 σ3 G5 R5 H5 hj s5 E5 => ?_, fun d v G5 R5 H5 hr s5 dd => ok.rt _ _ _ _ _ hr (s03.comp s5) dd, fun ρ3 σ3 G5 R5 H5 hj s5 E5 => ok.nx _ _ _ _ _ hj (s03.comp s5) E5, fun ρ3 σ3 G5 R5 H5 hj s5 E5 => ?_, fun xs l vs G5 R5 H5 hr s5 => ok.ro xs l vs G5 R5 H5 hr (s03.comp s5), fun as its v G5 R5 H5 hr s5 => ok.rn as its v G5 R5 H5 hr (s03.comp s5)⟩
    · exact ⟨ρ3, G5, R5, hj, sg3.trans s5.gg, s03.comp s5, E5⟩
    · exact ⟨ρ3, G5, R5, hj, sg3.trans s5.gg, s03.comp s5, E5⟩
  · have e : i = ds.length := by omega
    subst e
    exact .inl ⟨gd2 (Nat.le_refl _), ok.nx _ _ _ _ _ (je _ hJ) s' E'⟩
end
end Tee
namespace Tee
open PySem PySem.Spec PyProof.Rows L2
def qd0 (N : List Str) (as : List SV) : Rho := as.map some ++ List.replicate (N.length - as.length) none
theorem ArgR.slot {K : PySem.W.Frag} {H0 G R H : Hp} {v : V} {a : SV} (h : ArgR K G R v a) : SlotR K H0 G R H (some a) (some (some v)) := by
  cases a with
  | dat d => exact h
  | obj o => cases v <;> exact h.elim
  | rel => cases v <;> exact h
  | scr ns => cases v <;> exact h
theorem ArgsR.len {K : PySem.W.Frag} {G R : Hp} {vs : List V} {as : List SV} (h : ArgsR K G R vs as) : vs.length = as.length := Paired.length h
theorem ArgsR.get {K : PySem.W.Frag} {G R : Hp} : ∀ {vs : List V} {as : List SV} {i : Nat} {a : SV}, ArgsR K G R vs as → as[i]? = some a → ∃ v, vs[i]? = some v ∧ ArgR K G R v a
  | _, _, _, _, .nil, e => by simp at e
  | _, _, 0, _, .cons h _, e => by simp at e; subst e; exact ⟨_, rfl, h⟩
  | _, _, i + 1, a, .cons _ t, e => ArgsR.get (i := i) (a := a) t (by simpa using e)
theorem env_start {K : PySem.W.Frag} {N : List Str} {vs : List V} {as : List SV} {G R H : Hp} (w : Wd G R H) (r : ArgsR K G R vs as) : EnvR K H (qd0 N as) (L2.start N vs) G R H := by
  have hl := r.len
  have get : ∀ (i : Nat) (q : Option SV), (qd0 N as)[i]? = some q → (∃ a, as[i]? = some a ∧ q = some a) ∨ (as.length ≤ i ∧ q = none) := fun i q e => by
    unfold qd0 at e
    by_cases hi : i < as.length
    · rw [List.getElem?_append_left (by rw [List.length_map]; exact hi), List.getElem?_map] at e
      cases z : as[i]? with
      | none => rw [z] at e; cases e
      | some a => rw [z] at e; cases e; exact .inl ⟨a, rfl, rfl⟩
    · rw [List.getElem?_append_right (by rw [List.length_map]; omega), List.getElem?_replicate] at e
      split at e
      · cases e; exact .inr ⟨by omega, rfl⟩
      · cases e
  refine ⟨w, by unfold qd0 L2.start; simp [hl], fun i q e => ?_, fun i j o o' v v' c h1 h2 _ _ _ _ => ?_⟩
  · rcases get i q e with ⟨a, ea, rfl⟩ | ⟨_, rfl⟩
    · obtain ⟨v, ev, ra⟩ := r.get ea
      have es : (L2.start N vs)[i]? = some (some v) := by
        unfold L2.start
        rw [List.getElem?_append_left (by rw [List.length_map]; exact (List.getElem?_eq_some_iff.mp ev).1), List.getElem?_map, ev]
        rfl
      rw [es]
      exact ra.slot
    · trivial
  · rcases get i _ h1 with ⟨a, ea, q⟩ | ⟨_, q⟩
    · cases q
      obtain ⟨v, _, ra⟩ := r.get ea
      cases v <;> exact ra.elim
    · cases q
def endR (Q : PyData → Prop) : Out → Prop
  | .rt d => Q d
  | .nx _ => Q .none
  | .bk _ => False
  | .ct _ => False
  | .ro xs => Q (.list xs)
  | .rn _ its => Q (.list (its.map itD))
theorem Stp.lay {G0 R0 H0 G R H : Hp} (s : Stp G0 R0 H0 G R H) {l : Addr} {vs : List V} (h1 : H l = some (.lst vs)) (h2 : G l = none) (h3 : R l = none) (h4 : H0 l = none) : Stp G0 R0 H0 (upd G l (.lst vs)) R H := by
  have ng : ∀ b u, G b = some u → b ≠ l := fun b u e => ne_of_none e h2
  refine ⟨⟨fun b u e => ?_, s.wd.rh, fun b u e => ?_⟩, s.keep, s.dom, fun b u e => by rw [upd_ne (ng b u (s.gg b u e))]; exact s.gg b u e, fun b u e n => ?_, s.rnew, s.rel⟩
  · by_cases q : b = l
    · subst q; rw [upd_same] at e; cases e; exact h1
    · rw [upd_ne q] at e; exact s.wd.gh b u e
  · rw [upd_ne (ne_of_none e h3)]; exact s.wd.dis b u e
  · by_cases q : b = l
    · subst q; exact h4
    · rw [upd_ne q] at e; exact s.gnew b u e n
theorem joinH_same {G H : Hp} {fp : List Addr} (h : ∀ a ∈ fp, G a = none) : Same G (joinH G H fp) := fun b u e => by rw [joinH_out (fun q => by rw [h b q] at e; cases e)]; exact e
theorem Stp.layO {G0 R0 H0 G R H : Hp} (s : Stp G0 R0 H0 G R H) {o : OwnO} {v : V} (fr : ∀ a ∈ foot o v, Free H0 G R H a) : Stp G0 R0 H0 (joinH G H (foot o v)) R H := by
  refine ⟨⟨fun b u e => ?_, s.wd.rh, fun b u e => ?_⟩, s.keep, s.dom, s.gg.trans (joinH_same fun a ha => (fr a ha).1), fun b u e n => ?_, s.rnew, s.rel⟩
  · by_cases q : b ∈ foot o v
    · rw [joinH_in q] at e; exact e
    · rw [joinH_out q] at e; exact s.wd.gh b u e
  · rw [joinH_out (fun q => by rw [(fr b q).2.1] at e; cases e)]; exact s.wd.dis b u e
  · by_cases q : b ∈ foot o v
    · exact (fr b q).2.2.1
    · rw [joinH_out q] at e; exact s.gnew b u e n
theorem OwnAt.foot_nst {G H : Hp} {as : List Addr} {its : List (PyData ⊕ List PyData)} {v : V} (h : OwnAt G H (.nst as its) v) : foot (.nst as its) v = as := by cases v <;> first | rfl | exact h.elim
theorem OwnAt.free_nst {G H : Hp} {as : List Addr} {its : List (PyData ⊕ List PyData)} {v : V} (h : OwnAt G H (.nst as its) v) {p : Addr → Prop} (fr : ∀ a ∈ as, p a) : ∀ a ∈ foot (.nst as its) v, p a := fun a ha => fr a (by rw [h.foot_nst] at ha; exact ha)
theorem Dd.lay {G : Hp} {l : Addr} {vs : List V} {xs : List PyData} (h2 : G l = none) (h : DdAll G vs xs) : Dd (upd G l (.lst vs)) (.ref l) (.list xs) :=
  .lst upd_same (DdAll.mono (fun b u e => by rw [upd_ne (ne_of_none e h2)]; exact e) _ _ h)
section
variable {P : Program} {w : World} {K : PySem.W.Frag} {mg : Str → Option Value} {base : Heap}
theorem gok_fun {x qual : Str} {st : Stmt} {f : Addr} {fd : FuncData} {N ps : List Str} {k : Nat} (W : Wp) (F : Fun K x qual st f fd) (Sc : FnScope N ps (defScope st)) (sys : SysAt base)
    (hlen : ∀ as Q, W as Q → as.length = ps.length) (hb : ∀ as Q, W as Q → WS ⟨P, w, K, mg, base, N, defScope st, fun _ => true, k⟩ (defBody st) (qd0 N as) (endR Q)) : Gok P w K mg base CX0 (k + 1) f fd ps (spV K W) := by
  obtain ⟨oc, od, kV, doc, pm, an, cdv, ct, osl, rfl, lk, hcd⟩ := F.ex
  refine g_of lk hcd Sc (fun vs H Q E h => ?_) fun B above t H vs Q E hg hr h => ?_
  · obtain ⟨G, R, as, Q0, wd, r, hW, _⟩ := h
    rw [r.len]
    exact hlen as Q0 hW
  · obtain ⟨G, R, as, Q0, wd, r, hW, k0⟩ := h
    let X : Cx := (cxOf CX0 P w K mg base N qual (defScope st) f cdv B above t H E).nox
    have ft : Fits ⟨P, w, K, mg, base, N, defScope st, fun _ => true, k⟩ X := ⟨rfl, rfl, rfl, rfl, rfl, rfl, rfl, fun _ h => h, rfl, hg, hr, sys, Sc.nd, PassesOwn.never⟩
    refine ⟨tUS X (defBody st), (pss_U (X := X)).nox, hb as Q0 hW X ft G R H (L2.start N vs) G R H (Stp.refl wd) (env_start wd r) _ ⟨fun ρ σ G2 R2 H2 q s _ => k0 _ _ _ _ _ q s .non, fun d v G2 R2 H2 q s dd => k0 _ _ _ _ _ q s dd, fun _ _ _ _ _ q _ _ => q.elim, fun _ _ _ _ _ q _ _ => q.elim, fun xs l vs G2 R2 H2 q s h1 h2 h3 h4 h5 => k0 _ _ _ _ _ q (s.lay h1 h2 h3 h4) (Dd.lay h2 h5), fun as its v G2 R2 H2 q s h fr => k0 _ _ _ _ _ q (s.layO (o := .nst as its) (v := v) (h.free_nst fr)) (OwnAt.dd (o := .nst as its) (joinH_same fun a ha => (h.free_nst fr a ha).1) rfl (fun a ha => joinH_in ha) h)⟩⟩
theorem has_fun {x qual : Str} {st : Stmt} {f : Addr} {fd : FuncData} {N ps : List Str} {k : Nat} (W : Wp) (F : Fun K x qual st f fd) (hm : mg x = some (.ref f)) (b : Binds K fd ps []) (Sc : FnScope N ps (defScope st)) (sys : SysAt base)
    (hlen : ∀ as Q, W as Q → as.length = ps.length) (hb : ∀ as Q, W as Q → WS ⟨P, w, K, mg, base, N, defScope st, fun _ => true, k⟩ (defBody st) (qd0 N as) (endR Q)) : Has P w K mg base x (k + 1) W :=
  ⟨f, fd, ps, hm, F.kp, b, gok_fun W F Sc sys hlen hb⟩
end
def wLaw : Wp := fun as Q => ∃ ns : List Int, as = [.scr ns] ∧ ns.length ≤ 63 ∧ Q (.bool true)
theorem law_sp {K : PySem.W.Frag} {H : Hp} {a : Addr} {ns : List Int} (hl : ns.length ≤ 63) (hO : Only H) (h0 : SqL K H a (ns.map V.int)) : spV K wLaw [.ref a] H (fun v _ => v = .bl true) fun _ _ _ => False :=
  have h : ScrL K H a (ns.map V.int) := by
    rcases h0 with (z | ⟨o, z⟩) | z
    · rcases hO a with y | ⟨o, xs, y⟩
      · rw [z] at y; cases y
      · rw [z] at y; cases y
    · exact .inl ⟨o, z⟩
    · exact .inr (.inr z)
  ⟨H, fun _ => none, [.scr ns], fun d => d = .bool true, ⟨Same.refl H, fun b o e => (nomatch e), fun b o e => (nomatch e)⟩, .cons h .nil, ⟨ns, rfl, hl, rfl⟩, fun d v G2 R2 H2 e _ dd => by
    subst e
    cases dd
    rfl⟩
end Tee
namespace Tee
open PySem PySem.Spec PyProof.Rows L2
def midR (M : Rho → Prop) (R : Out → Prop) : Out → Prop
  | .nx ρ => M ρ
  | .rt d => R (.rt d)
  | .bk ρ => R (.bk ρ)
  | .ct ρ => R (.ct ρ)
  | .ro xs => R (.ro xs)
  | .rn as its => R (.rn as its)
theorem W1.mono {S : Sta} {st : Stmt} {ρ : Rho} {R R' : Out → Prop} (h : W1 S st ρ R) (k : ∀ o, R o → R' o) : W1 S st ρ R' := fun X f G0 R0 H0 σ G Rr H s0 E D ok =>
  h X f G0 R0 H0 σ G Rr H s0 E D ⟨fun ρ σ G Rr H r => ok.nx ρ σ G Rr H (k _ r), fun d v G Rr H r => ok.rt d v G Rr H (k _ r), fun ρ σ G Rr H r => ok.bk ρ σ G Rr H (k _ r), fun ρ σ G Rr H r => ok.ct ρ σ G Rr H (k _ r), fun xs l vs G Rr H r => ok.ro xs l vs G Rr H (k _ r), fun as its v G Rr H r => ok.rn as its v G Rr H (k _ r)⟩
section
variable {S : Sta} {ρ : Rho} {Q : PyData → Prop} {elt tg iter t : Expr} {p pos : Pos}
theorem WTg.mono {L : List Nat} {d : PyData} {K K' : Rho → Prop} (h : WTg S tg L ρ d K) (k : ∀ r, K r → K' r) : WTg S tg L ρ d K' := fun X f H0 σ G R H E v dd Qσ kq => h X f H0 σ G R H E v dd Qσ fun ρ' σ' q => kq ρ' σ' (k _ q)
theorem WI.mono {Q Q' : List PyData → Prop} (h : WI S tg iter ρ Q) (k : ∀ r, Q r → Q' r) : WI S tg iter ρ Q' := fun X f H0 σ G R H E => by
  obtain ⟨wi, pi, hw⟩ := h X f H0 σ G R H E
  exact ⟨wi, pi, fun RV kq => hw RV fun ds J G2 R2 H2 q => kq ds J G2 R2 H2 (k _ q)⟩
end
end Tee
namespace Tee
open PySem PySem.Spec PyProof.Rows L2
def wDraw : Wp := fun as Q => ∃ m : Int, as = [.rel, .dat (.int m)] ∧ 0 < m ∧ m < 2 ^ 8000 ∧ ∀ v : Int, 0 ≤ v → v < m → Q (.int v)
end Tee
namespace Tee
open PySem PySem.Spec PyProof.Rows L2
section
variable {S : Sta} {ρ : Rho} {Q : PyData → Prop} {R : Out → Prop} {x y : Str} {p p2 p3 p4 px pos : Pos}
def wReel : Wp := fun as Q => ∃ ns : List Int, as = [.scr ns] ∧ ns.length ≤ 63 ∧ ∀ (gs es : List Int) (z : Int), (∀ x ∈ gs, 0 ≤ x) → gs.length ≤ 63 → 0 < es.length → es.length ≤ 64 → (∀ x ∈ es, 0 ≤ x ∧ x < 1000003) → 0 ≤ z → z < 2 ^ 140 →
  Q (.list [.list (gs.map .int), .list (es.map .int), .int 0, .int z])
end
end Tee
namespace Tee
open PySem PySem.Spec PyProof.Rows L2
mutual
def okD : PyData → Bool
  | .none | .bool _ | .str _ => true
  | .int i => decide (i.natAbs < 10 ^ 40)
  | .list xs | .tuple xs => okAll xs
  | .dict kvs => okKv kvs
def okAll : List PyData → Bool
  | [] => true
  | x :: xs => okD x && okAll xs
def okKv : List (PyData × PyData) → Bool
  | [] => true
  | (k, v) :: r => okD k && okD v && okKv r
end
mutual
def siz : PyData → Nat
  | .none | .bool _ => 5
  | .int _ => 41
  | .str x => (reprText x).length
  | .list xs | .tuple xs => sizAll xs + 3
  | .dict kvs => sizKv kvs + 2
def sizAll : List PyData → Nat
  | [] => 0
  | x :: xs => siz x + 2 + sizAll xs
def sizKv : List (PyData × PyData) → Nat
  | [] => 0
  | (k, v) :: r => siz k + siz v + 4 + sizKv r
end
theorem textFrom_le : ∀ (ts : List Str) (k : Nat) (acc : Str), (textFrom k acc ts).length ≤ acc.length + piled ts
  | [], _, _ => Nat.le_add_right _ _
  | t :: ts, k, acc => by
    have h := textFrom_le ts (k + 1) (acc ++ (if k > 0 then ", " else "" : String) ++ t)
    have e : (acc ++ (if k > 0 then ", " else "" : String) ++ t).length ≤ acc.length + 2 + t.length := by
      rw [strLen_append, strLen_append]
      have : (Str.ofString (if k > 0 then ", " else "" : String)).length ≤ 2 := by split <;> decide
      omega
    show (textFrom (k + 1) _ ts).length ≤ _
    rw [piled_cons]
    omega
theorem listText_le (ts : List Str) : (listText ts).length ≤ piled ts + 2 := by
  unfold listText
  rw [strLen_append]
  have h := textFrom_le ts 0 "["
  have e1 : (Str.ofString "[").length = 1 := rfl
  have e2 : (Str.ofString "]").length = 1 := rfl
  omega
theorem join_le (ts : List Str) : (Str.join ", " ts).length ≤ piled ts := by
  by_cases h : ts = []
  · subst h; exact Nat.zero_le _
  · have := join_length_add ts h; omega
theorem tupleText_le (ts : List Str) : (tupleText ts).length ≤ piled ts + 3 := by
  unfold tupleText
  rw [strLen_append, strLen_append]
  have h := join_le ts
  have e1 : (Str.ofString "(").length = 1 := rfl
  have e2 : (Str.ofString (if ts.length == 1 then ",)" else ")" : String)).length ≤ 2 := by split <;> decide
  omega
theorem dictText_le (ts : List Str) : (dictText ts).length ≤ piled ts + 2 := by
  unfold dictText
  rw [strLen_append, strLen_append]
  have h := join_le ts
  have e1 : (Str.ofString "{").length = 1 := rfl
  have e2 : (Str.ofString "}").length = 1 := rfl
  omega
theorem int_ok {i : Int} (h : i.natAbs < 10 ^ 40) : (Str.ofString (toString i)).length ≤ 41 ∧ i.natAbs.log2 < 1920 := by
  refine ⟨by rw [PySem.ofString_length]; exact int_text_length_le10 (by decide) h, ?_⟩
  have h2 : i.natAbs < 2 ^ 140 := Nat.lt_of_lt_of_le h (by decide)
  exact Nat.lt_of_lt_of_le (PySem.Flt.log2_lt_of (by decide) h2) (by decide)
mutual
theorem shown_le : ∀ d : PyData, okD d = true → d.shown.length ≤ siz d ∧ d.showable = true
  | .none, _ => ⟨by show (Str.ofString "None").length ≤ 5; decide, rfl⟩
  | .bool b, _ => ⟨by cases b <;> (simp only [PyData.shown, siz]; decide), rfl⟩
  | .int i, h => by
    have h1 : i.natAbs < 10 ^ 40 := by simpa [okD] using h
    obtain ⟨a, b⟩ := int_ok h1
    exact ⟨by simp only [PyData.shown, siz]; exact a, by simp only [PyData.showable]; exact decide_eq_true b⟩
  | .str x, _ => ⟨by simp only [PyData.shown, siz]; exact Nat.le_refl _, rfl⟩
  | .list xs, h => by
    obtain ⟨a, b⟩ := shownAll_le xs (by simpa [okD] using h)
    have := listText_le (PyData.shownAll xs)
    exact ⟨by simp only [PyData.shown, siz]; omega, by simpa only [PyData.showable] using b⟩
  | .tuple xs, h => by
    obtain ⟨a, b⟩ := shownAll_le xs (by simpa [okD] using h)
    have := tupleText_le (PyData.shownAll xs)
    exact ⟨by simp only [PyData.shown, siz]; omega, by simpa only [PyData.showable] using b⟩
  | .dict kvs, h => by
    obtain ⟨a, b⟩ := shownKv_le kvs (by simpa [okD] using h)
    have := dictText_le (PyData.shownKv kvs)
    exact ⟨by simp only [PyData.shown, siz]; omega, by simpa only [PyData.showable] using b⟩
theorem shownAll_le : ∀ xs : List PyData, okAll xs = true → piled (PyData.shownAll xs) ≤ sizAll xs ∧ PyData.showableAll xs = true
  | [], _ => ⟨Nat.le_refl _, rfl⟩
  | x :: xs, h => by
    have h' : okD x = true ∧ okAll xs = true := by simpa [okAll] using h
    obtain ⟨a, b⟩ := shown_le x h'.1
    obtain ⟨c, d⟩ := shownAll_le xs h'.2
    refine ⟨by simp only [PyData.shownAll, sizAll, piled_cons]; omega, by simp only [PyData.showableAll, b, d, Bool.and_self]⟩
theorem shownKv_le : ∀ xs : List (PyData × PyData), okKv xs = true → piled (PyData.shownKv xs) ≤ sizKv xs ∧ PyData.showableKv xs = true
  | [], _ => ⟨Nat.le_refl _, rfl⟩
  | (k, v) :: xs, h => by
    have h' : (okD k = true ∧ okD v = true) ∧ okKv xs = true := by simpa [okKv] using h
    obtain ⟨a, b⟩ := shown_le k h'.1.1
    obtain ⟨a2, b2⟩ := shown_le v h'.1.2
    obtain ⟨c, d⟩ := shownKv_le xs h'.2
    refine ⟨?_, by simp only [PyData.showableKv, b, b2, d, Bool.and_self]⟩
    simp only [PyData.shownKv, sizKv, piled_cons]
    have e : (k.shown ++ ": " ++ v.shown).length = k.shown.length + 2 + v.shown.length := by
      rw [strLen_append, strLen_append]
      rfl
    rw [e]
    omega
end
structure Fit (d : PyData) (n k : Nat) : Prop where
  ok : okD d = true
  sz : siz d ≤ n
  dp : d.depth ≤ k
structure FitA (ds : List PyData) (n k : Nat) : Prop where
  ok : okAll ds = true
  sz : sizAll ds ≤ n
  dp : PyData.depthAll ds ≤ k
theorem FitA.nil {k : Nat} : FitA [] 0 k := ⟨rfl, Nat.le_refl _, Nat.zero_le _⟩
theorem FitA.cons {d : PyData} {ds : List PyData} {n m k : Nat} (h : Fit d n k) (t : FitA ds m k) : FitA (d :: ds) (n + 2 + m) k :=
  ⟨by simp only [okAll, h.ok, t.ok, Bool.and_self], by simp only [sizAll]; have := h.sz; have := t.sz; omega, by simp only [PyData.depthAll]; have := h.dp; have := t.dp; omega⟩
theorem FitA.app {ds es : List PyData} {n m k : Nat} (h : FitA ds n k) (t : FitA es m k) : FitA (ds ++ es) (n + m) k := by
  induction ds generalizing n with
  | nil => exact ⟨t.ok, by have := t.sz; show sizAll es ≤ _; omega, t.dp⟩
  | cons d ds ih =>
    have h1 : okD d = true ∧ okAll ds = true := by simpa [okAll] using h.ok
    have h2 := h.sz
    have h3 := h.dp
    simp only [sizAll] at h2
    simp only [PyData.depthAll] at h3
    have i := ih (n := n - (siz d + 2)) ⟨h1.2, by omega, by omega⟩
    refine ⟨by simp only [List.cons_append, okAll, h1.1, i.ok, Bool.and_self], ?_, ?_⟩
    · simp only [List.cons_append, sizAll]; have := i.sz; omega
    · simp only [List.cons_append, PyData.depthAll]; have := i.dp; omega
theorem FitA.all {ds : List PyData} {n k : Nat} (h : ∀ d ∈ ds, Fit d n k) : FitA ds (ds.length * (n + 2)) k := by
  induction ds with
  | nil => exact ⟨rfl, Nat.zero_le _, Nat.zero_le _⟩
  | cons d ds ih =>
    have := (FitA.cons (h d (by simp)) (ih fun e he => h e (List.mem_cons_of_mem _ he)))
    exact ⟨this.ok, by have := this.sz; rw [List.length_cons, Nat.succ_mul]; omega, this.dp⟩
theorem Fit.list {ds : List PyData} {n k : Nat} (h : FitA ds n k) : Fit (.list ds) (n + 3) (k + 1) := ⟨by simpa only [okD] using h.ok, by simp only [siz]; have := h.sz; omega, by simp only [PyData.depth]; have := h.dp; omega⟩
theorem Fit.tuple {ds : List PyData} {n k : Nat} (h : FitA ds n k) : Fit (.tuple ds) (n + 3) (k + 1) := ⟨by simpa only [okD] using h.ok, by simp only [siz]; have := h.sz; omega, by simp only [PyData.depth]; have := h.dp; omega⟩
theorem Fit.int {i : Int} (h : i.natAbs < 10 ^ 40) {k : Nat} : Fit (.int i) 41 k := ⟨by simpa [okD] using h, by simp only [siz]; exact Nat.le_refl _, by simp only [PyData.depth]; exact Nat.zero_le _⟩
theorem Fit.mono {d : PyData} {n m k j : Nat} (h : Fit d n k) (a : n ≤ m := by omega) (b : k ≤ j := by omega) : Fit d m j := ⟨h.ok, Nat.le_trans h.sz a, Nat.le_trans h.dp b⟩
theorem FitA.mono {d : List PyData} {n m k j : Nat} (h : FitA d n k) (a : n ≤ m := by omega) (b : k ≤ j := by omega) : FitA d m j := ⟨h.ok, Nat.le_trans h.sz a, Nat.le_trans h.dp b⟩
end Tee
namespace Tee
open PySem PySem.Spec PyProof.Rows L2
theorem EnvR.take {K : PySem.W.Frag} {H0 : Hp} {ρ : Rho} {σ : L2.St} {G R H : Hp} (E : EnvR K H0 ρ σ G R H) (i : Nat) {xs : List PyData} {vs : List V} {p : Addr} (hp : H p = some (.lst vs)) (gp : G p = none) (rp : R p = none) (h0p : H0 p = none) (bes : Beside ρ σ p) (h : DdAll G vs xs) :
    EnvR K H0 (ρ.set i (some (.own xs))) (σ.set i (some (.ref p))) G R H := by
  refine E.put i (o := .lst xs) (v := .ref p) ⟨vs, hp, h⟩ fun a ha => ?_
  rw [List.mem_singleton.mp (show a ∈ [p] from ha)]
  exact ⟨⟨gp, rp, h0p, _, hp⟩, bes⟩
section
variable {S : Sta} {ρ : Rho} {R : Out → Prop} {elt a b c e tg iter t : Expr} {es rest ifs : List Expr} {x y : Str} {p pos px py : Pos}
def zipD (xs ys : List PyData) : List PyData := (xs.zip ys).map fun q => .tuple [q.1, q.2]
theorem zipD_get {xs ys : List PyData} {i : Nat} {x y : PyData} (h1 : xs[i]? = some x) (h2 : ys[i]? = some y) : (zipD xs ys)[i]? = some (.tuple [x, y]) := by
  unfold zipD
  rw [List.getElem?_map, (List.getElem?_zip_eq_some (z := (x, y))).mpr ⟨h1, h2⟩]
  rfl
theorem zipD_len (xs ys : List PyData) : (zipD xs ys).length = min xs.length ys.length := by unfold zipD; rw [List.length_map, List.length_zip]
theorem good_zip {K : PySem.W.Frag} {a b : Addr} {vs ws : List V} {ds es : List PyData} {G : Hp} {J : It}
    (hgo : ∀ i H, J.go i H ↔ ∃ (xs ys : List V) (x y : V), SqL K H a xs ∧ SqL K H b ys ∧ xs[i]? = some x ∧ ys[i]? = some y)
    (hy : ∀ i H v H', J.yld i H v H' → ∃ T x y, v = .ref T ∧ H T = none ∧ H' = upd H T (.tup [x, y]) ∧ (∀ xs, SqL K H a xs → xs[i]? = some x) ∧ ∀ ys, SqL K H b ys → ys[i]? = some y)
    (hst : ∀ i H, (∃ xs ys : List V, SqL K H a xs ∧ SqL K H b ys ∧ (xs.length ≤ i ∨ ys.length ≤ i)) → J.stop i H)
    (h1 : G a = some (.lst vs)) (h2 : G b = some (.lst ws)) (r1 : DdAll G vs ds) (r2 : DdAll G ws es) : Good J (zipD ds es) G := by
  intro G' R' H' sg w i
  have qa := SqL.of (K := K) (w.gh _ _ (sg _ _ h1))
  have qb := SqL.of (K := K) (w.gh _ _ (sg _ _ h2))
  refine ⟨fun hi => ?_, fun hi => hst _ _ ⟨vs, ws, qa, qb, ?_⟩⟩
  · rw [zipD_len] at hi
    obtain ⟨d, ed⟩ : ∃ d, ds[i]? = some d := ⟨_, List.getElem?_eq_getElem (by omega)⟩
    obtain ⟨e, ee⟩ : ∃ d, es[i]? = some d := ⟨_, List.getElem?_eq_getElem (by omega)⟩
    obtain ⟨v, ev, dv⟩ := r1.get ed
    obtain ⟨u, eu, du⟩ := r2.get ee
    refine ⟨(hgo _ _).mpr ⟨vs, ws, v, u, qa, qb, ev, eu⟩, fun x H'' hx => ?_⟩
    obtain ⟨T, x1, x2, rfl, nT, rfl, f1, f2⟩ := hy _ _ _ _ hx
    cases (f1 _ qa).symm.trans ev
    cases (f2 _ qb).symm.trans eu
    have st := Stp.new w (p := T) (o := .tup [v, u]) nT
    have dv' := Dd.mono (sg.trans st.gg) _ _ dv
    have du' := Dd.mono (sg.trans st.gg) _ _ du
    exact ⟨_, .tuple [d, e], st, zipD_get ed ee, .tup upd_same (.cons dv' (.cons du' .nil))⟩
  · rw [zipD_len] at hi
    rw [r1.len, r2.len]
    omega
theorem good_zipT {K : PySem.W.Frag} {a b : Addr} {vs ws : List V} {ds es : List PyData} {G : Hp} {J : It}
    (hgo : ∀ i H, J.go i H ↔ ∃ (xs ys : List V) (x y : V), SqT K H a xs ∧ SqT K H b ys ∧ xs[i]? = some x ∧ ys[i]? = some y)
    (hy : ∀ i H v H', J.yld i H v H' → ∃ T x y, v = .ref T ∧ H T = none ∧ H' = upd H T (.tup [x, y]) ∧ (∀ xs, SqT K H a xs → xs[i]? = some x) ∧ ∀ ys, SqT K H b ys → ys[i]? = some y)
    (hst : ∀ i H, (∃ xs ys : List V, SqT K H a xs ∧ SqT K H b ys ∧ (xs.length ≤ i ∨ ys.length ≤ i)) → J.stop i H)
    (h1 : G a = some (.tup vs)) (h2 : G b = some (.tup ws)) (r1 : DdAll G vs ds) (r2 : DdAll G ws es) : Good J (zipD ds es) G := by
  intro G' R' H' sg w i
  have qa := SqT.of (K := K) (w.gh _ _ (sg _ _ h1))
  have qb := SqT.of (K := K) (w.gh _ _ (sg _ _ h2))
  refine ⟨fun hi => ?_, fun hi => hst _ _ ⟨vs, ws, qa, qb, ?_⟩⟩
  · rw [zipD_len] at hi
    obtain ⟨d, ed⟩ : ∃ d, ds[i]? = some d := ⟨_, List.getElem?_eq_getElem (by omega)⟩
    obtain ⟨e, ee⟩ : ∃ d, es[i]? = some d := ⟨_, List.getElem?_eq_getElem (by omega)⟩
    obtain ⟨v, ev, dv⟩ := r1.get ed
    obtain ⟨u, eu, du⟩ := r2.get ee
    refine ⟨(hgo _ _).mpr ⟨vs, ws, v, u, qa, qb, ev, eu⟩, fun x H'' hx => ?_⟩
    obtain ⟨T, x1, x2, rfl, nT, rfl, f1, f2⟩ := hy _ _ _ _ hx
    cases (f1 _ qa).symm.trans ev
    cases (f2 _ qb).symm.trans eu
    have st := Stp.new w (p := T) (o := .tup [v, u]) nT
    have dv' := Dd.mono (sg.trans st.gg) _ _ dv
    have du' := Dd.mono (sg.trans st.gg) _ _ du
    exact ⟨_, .tuple [d, e], st, zipD_get ed ee, .tup upd_same (.cons dv' (.cons du' .nil))⟩
  · rw [zipD_len] at hi
    rw [r1.len, r2.len]
    omega
theorem wi_zip {elts : List Expr} {kk : Nat} {tpos : Pos} {Q : List PyData → Prop} (h : WD S [a, b] ρ fun ds => ∃ xs ys, (ds = [.list xs, .list ys] ∨ ds = [.tuple xs, .tuple ys]) ∧ Q (zipD xs ys)) (hm : S.mg "zip" = none) (hg : Gb S "zip" := by rfl)
    (hs : ∀ env, starEach [a, b] env = (false, eval a env) :: starEach [b] env := by intro _; rfl) (hpl : ∀ env, (backTo pos (starEach [b] env)).any (·.1) = false := by intro _; rfl) :
    WI S (.Tuple elts kk tpos) (.Call (.Name "zip" p) [a, b] [] pos) ρ Q := by
  intro X f H0 σ G R H E
  obtain ⟨t, pt, ht⟩ := h X f H0 σ G R H E
  refine ⟨_, RZ.pi_zipA (gb_of f hg) (by rw [f.mg]; exact hm) pt (hs _) (hpl _), fun RV k => ht _ fun ds vs G2 R2 H2 ⟨xs, ys, e, q⟩ st dd => ?_⟩
  rcases e with e | e <;> subst e
  · cases dd with
    | cons d1 t =>
      cases t with
      | cons d2 t =>
        cases t
        cases d1 with
        | lst q1 r1 =>
          cases d2 with
          | lst q2 r2 =>
            exact ⟨_, _, _, _, rfl, .inl ⟨SqL.of (st.wd.gh _ _ q1), SqL.of (st.wd.gh _ _ q2), k _ _ G2 R2 H2 q st (good_zip (K := X.K) (fun _ _ => Iff.rfl) (fun _ _ _ _ z => z) (fun _ _ z => z) q1 q2 r1 r2)⟩⟩
  · cases dd with
    | cons d1 t =>
      cases t with
      | cons d2 t =>
        cases t
        cases d1 with
        | tup q1 r1 =>
          cases d2 with
          | tup q2 r2 =>
            exact ⟨_, _, _, _, rfl, .inr ⟨SqT.of (st.wd.gh _ _ q1), SqT.of (st.wd.gh _ _ q2), k _ _ G2 R2 H2 q st (good_zipT (K := X.K) (fun _ _ => Iff.rfl) (fun _ _ _ _ z => z) (fun _ _ z => z) q1 q2 r1 r2)⟩⟩
end
end Tee
namespace Tee
open PySem PySem.Spec PyProof.Rows L2
abbrev WpO := List SV → (List PyData → Prop) → Prop
def spVO (K : PySem.W.Frag) (W : WpO) : Sp := fun vs H Q _ => ∃ (G R : Hp) (as : List SV) (Q0 : List PyData → Prop), Wd G R H ∧ ArgsR K G R vs as ∧ W as Q0 ∧
  ∀ xs l us G2 R2 H2, Q0 xs → Stp G R H G2 R2 H2 → H2 l = some (.lst us) → G2 l = none → R2 l = none → H l = none → DdAll G2 us xs → Q (.ref l) H2
structure HasO (P : Program) (w : World) (K : PySem.W.Frag) (mg : Str → Option Value) (base : Heap) (x : Str) (k : Nat) (W : WpO) : Prop where
  ex : ∃ (f : Addr) (fd : FuncData) (ps : List Str), mg x = some (.ref f) ∧ PySem.W.keepIn K (.ref f) = true ∧ Binds K fd ps [] ∧ Gok P w K mg base CX0 k f fd ps (spVO K W)
abbrev Sta.hasO (S : Sta) (x : Str) (k : Nat) (W : WpO) : Prop := HasO S.P S.w S.K S.mg S.base x k W
def endO (Q : List PyData → Prop) : Out → Prop
  | .ro xs => Q xs
  | _ => False
theorem Stp.out {G R H G2 R2 H2 : Hp} (s : Stp G R H G2 R2 H2) {l : Addr} (h2 : G2 l = none) (h3 : R2 l = none) (h4 : H l = none) : Stp G R H G2 R2 (fun b => if b = l then none else H2 b) := by
  have ne : ∀ {b : Addr} {o : Option HO}, b ≠ l → (if b = l then none else o) = o := fun h => if_neg h
  refine ⟨⟨fun b o e => ?_, fun b o e => ?_, s.wd.dis⟩, fun b o n e => ?_, fun b o e => ?_, s.gg, s.gnew, s.rnew, s.rel⟩
  · show (if b = l then none else H2 b) = some o
    rw [ne (ne_of_none e h2)]; exact s.wd.gh _ _ e
  · show (if b = l then none else H2 b) = some o
    rw [ne (ne_of_none e h3)]; exact s.wd.rh _ _ e
  · show (if b = l then none else H2 b) = some o
    rw [ne (ne_of_none e h4)]; exact s.keep _ _ n e
  · show ∃ u, (if b = l then none else H2 b) = some u
    rw [ne (ne_of_none e h4)]; exact s.dom _ _ e
section
variable {S : Sta} {ρ : Rho} {R : Out → Prop} {a b c e iter tg : Expr} {es sts0 : List Expr} {sts rest body orelse : List Stmt} {st : Stmt} {x y : Str} {p px py pos : Pos}
end
section
variable {P : Program} {w : World} {K : PySem.W.Frag} {mg : Str → Option Value} {base : Heap}
end
def atomD : PyData → Bool
  | .none | .bool _ | .int _ | .str _ => true
  | _ => false
theorem Dd.atom {G G' : Hp} {v : V} {d : PyData} (h : Dd G v d) (a : atomD d = true) : Dd G' v d := by
  cases h <;> first | exact .non | exact .bl _ | exact .int _ | exact .str _ | cases a
theorem EnvR.lend {K : PySem.W.Frag} {H0 : Hp} {ρ : Rho} {σ : L2.St} {G R H : Hp} (E : EnvR K H0 ρ σ G R H) {i : Nat} {xs : List PyData} (hi : ρ[i]? = some (some (.own xs))) :
    ∃ l G2, EnvR K H0 (ρ.set i (some (.dat (.list xs)))) σ G2 R H ∧ G l = none ∧ (∀ b, b ≠ l → G2 b = G b) ∧ (∃ o, G2 l = some o) ∧ (∃ o, H l = some o) ∧ R l = none := by
  obtain ⟨l, vs, e1, h1, h2, h3, h4, h5⟩ := own_at E hi
  obtain ⟨G2, E2, dd, sm, nw, ex⟩ := E.freezeX hi e1
  refine ⟨l, G2, E2, h2, ex, ?_, ⟨_, h1⟩, h3⟩
  cases dd with
  | lst h _ => exact ⟨_, h⟩
theorem Stp.back {G R H G2 G3 R3 H3 : Hp} (s : Stp G2 R H G3 R3 H3) {l : Addr} (hl : G l = none) (same : ∀ b, b ≠ l → G2 b = G b) : Stp G R H (fun b => if b = l then none else G3 b) R3 H3 := by
  refine ⟨⟨fun b o e => ?_, s.wd.rh, fun b o e => ?_⟩, s.keep, s.dom, fun b o e => ?_, fun b o e n => ?_, s.rnew, s.rel⟩
  · by_cases z : b = l
    · simp [z] at e
    · exact s.wd.gh b o (by simpa [z] using e)
  · by_cases z : b = l
    · simp [z]
    · simp [z, s.wd.dis b o e]
  · have z : b ≠ l := ne_of_none e hl
    show (if b = l then none else G3 b) = some o
    rw [if_neg z]
    exact s.gg b o (by rw [same b z]; exact e)
  · by_cases z : b = l
    · simp [z] at e
    · exact s.gnew b o (by simpa [z] using e) (by rw [same b z]; exact n)
section
variable {S : Sta} {ρ : Rho} {R : Out → Prop} {a b c e iter tg : Expr} {es sts0 : List Expr} {sts rest body orelse : List Stmt} {st : Stmt} {x y : Str} {p px py pos : Pos}
theorem wt_lend (i : Nat) {xs : List PyData} {Q : Bool → Prop} (hr : ρ[i]? = some (some (.own xs))) (h : WT S e (ρ.set i (some (.dat (.list xs)))) Q) : WT S e ρ Q := by
  intro X f H0 σ G R H E QV kq
  obtain ⟨l, G2, E2, hl, same, _⟩ := E.lend hr
  exact h X f H0 σ G2 R H E2 QV fun k G3 R3 H3 q s => kq k _ R3 H3 q (s.back hl same)
theorem w1_while (J : Rho → Prop) (μ : Rho → Nat) (h0 : J ρ) (ht : ∀ ρ', J ρ' → WT S c ρ' fun k => (k = true → WS S body ρ' fun o => match o with
        | .nx ρ3 => J ρ3 ∧ μ ρ3 < μ ρ'
        | .ct ρ3 => J ρ3 ∧ μ ρ3 < μ ρ'
        | .bk ρ3 => R (.nx ρ3)
        | .rt d => R (.rt d)
        | .ro xs => R (.ro xs)
        | .rn as its => R (.rn as its)) ∧ (k = false → R (.nx ρ'))) : W1 S (.While c body [] pos) ρ R := by
  intro X f G0 R0 H0 σ G Rr H s0 E D ok
  refine W1.by (ps_while f.own pt_U pss_U) ⟨fun m σ' H' => ∃ ρ' G' R', m = μ ρ' ∧ J ρ' ∧ Stp G0 R0 H0 G' R' H' ∧ EnvR S.K H0 ρ' σ' G' R' H', ⟨_, ρ, G, Rr, rfl, h0, s0, E⟩, fun m σ' H' ⟨ρ', G', R', em, hJ, s', E'⟩ => ?_⟩
  subst em
  refine ht ρ' hJ X f H0 σ' G' R' H' E' _ fun k G2 R2 H2 q st => ?_
  cases k with
  | true =>
    rw [if_pos rfl]
    refine ⟨fun σ'' H'' => ∃ ρ3 G3 R3, J ρ3 ∧ μ ρ3 < μ ρ' ∧ Stp G0 R0 H0 G3 R3 H'' ∧ EnvR S.K H0 ρ3 σ'' G3 R3 H'', fun σ'' H'' ⟨ρ3, G3, R3, h1, h2, h3, h4⟩ => ⟨_, h2, ρ3, G3, R3, rfl, h1, h3, h4⟩, ?_⟩
    exact q.1 rfl X f G0 R0 H0 σ' G2 R2 H2 (s'.trans st) (E'.step st) _ ⟨fun ρ3 σ3 G3 R3 H3 r s3 E3 => ⟨ρ3, G3, R3, r.1, r.2, s3, E3⟩, ok.rt, fun ρ3 σ3 G3 R3 H3 r s3 E3 => ok.nx _ _ _ _ _ r s3 E3, fun ρ3 σ3 G3 R3 H3 r s3 E3 => ⟨ρ3, G3, R3, r.1, r.2, s3, E3⟩, ok.ro, ok.rn⟩
  | false =>
    rw [if_neg (by decide)]
    exact ok.nx _ _ _ _ _ (q.2 rfl) (s'.trans st) (E'.step st)
def rGetI : V → V → Hp → VK → Prop := fun x y H Q => ∃ (p : Addr) (ns : List Int) (j : Nat) (n : Int), x = .ref p ∧ y = .int (j : Int) ∧ H p = some (.lst (ns.map V.int)) ∧ ns[j]? = some n ∧ Q (.int n) H
theorem get_ints {X : Cx} : PGet X rGetI := by
  intro pins s σ H o i ov iv Q I ro ri h
  obtain ⟨p, ns, j, n, rfl, rfl, hp, hj, q⟩ := h
  cases ro
  obtain ⟨t, rfl⟩ := ri
  obtain ⟨its, r, pl, hz⟩ := I.list (SqL.of hp)
  have hjl : j < ns.length := (List.getElem?_eq_some_iff.mp hj).1
  have hl : its.length = (ns.map V.int).length := r.length.symm
  rw [List.length_map] at hl
  obtain ⟨u, eu, ru⟩ := r.get (i := j) (x := V.int n) (by rw [List.getElem?_map, hj]; rfl)
  have hn := line63
  rw [List.length_map] at hz
  refine wpAny_getItem_list pl.isList (by omega) (by omega) ?_ ⟨.int n, H, I, ru, q⟩
  simpa using eu
theorem w1_augS (i : Nat) {ns : List Int} {ps' : Pos} (hr : ρ[i]? = some (some (.own (ns.map .int)))) (h : WO S b ρ fun dk => ∃ (j : Nat) (n : Int), dk = .int (j : Int) ∧ ns[j]? = some n ∧ WE S e ρ fun d => ∃ m, d = .int m ∧ R (.nx (ρ.set i (some (.own ((ns.set j (n + m)).map .int))))))
    (hN : S.N[i]? = some x) (hv : Vis S.sc x) (hd : (x == ("__debug__" : Str)) = false := by decide) (hcd : (x == ("__classdict__" : Str)) = false := by decide)
    (ha : ∀ ov iv new, augStore b ov iv new = (do holding [new, ov, iv] (setItem ov iv new); release [new, ov, iv] []; pure .next) := by intros; rfl) :
    W1 S (.AugAssign (.Subscript (.Name x px) b ps') .Add e pos) ρ R := by
  intro X f G0 R0 H0 σ G Rr H s0 E D ok
  refine W1.by (ps_augS (pe_var (i := i) (by rw [f.N]; exact hN) (by rw [f.sc]; exact hv) hd hcd) pe_U get_ints pe_U ip_add set_list ha) ?_
  obtain ⟨l, vs, e1, h1, h2, h3, h4, h5⟩ := own_at E hr
  have ev := DdAll.intsV _ h5
  refine ⟨.ref l, e1, h X f H0 σ G Rr H E _ fun dk u G2 R2 H2 hb st o => ?_⟩
  obtain ⟨j, n, rfl, hj, hb⟩ := hb
  have E2 := E.step st
  obtain ⟨k1, k2, k3⟩ := st.apart h1 h2 h3
  refine ⟨l, ns, j, n, rfl, o.int, by rw [k1, ev], hj, hb X f H0 σ G2 R2 H2 E2 _ fun d v G3 R3 H3 q st3 dd => ?_⟩
  obtain ⟨m, rfl, q⟩ := q
  cases dd
  have E3 := E2.step st3
  obtain ⟨c1, c2, c3⟩ := st3.apart k1 k2 k3
  have hjl : j < ns.length := (List.getElem?_eq_some_iff.mp hj).1
  have s3 := (s0.trans st).trans st3
  refine ⟨n, m, rfl, rfl, l, vs, (j : Int), j, rfl, o.int, c1, ?_, ok.nx _ _ _ _ _ q (s3.off h4 c2 c3) ?_⟩
  · unfold ixN
    rw [if_pos (by omega), if_pos (by rw [ev, List.length_map]; omega)]
    rw [Int.toNat_natCast]
  · refine E3.chg hr e1 ?_
    rw [ev, List.map_set]
    have : (ns.map V.int).set j (.int (n + m)) = ((ns.set j (n + m)).map V.int) := by rw [List.map_set]
    rw [this, ← List.map_set]
    exact DdAll.ints _
end
end Tee
namespace Oak
open PySem PySem.Spec PyProof.Rows L2
open Tee (Dd DdAll ScrL SysAt tU tUT tUW tUS pe_U pt_U pw_U pss_U CmpD rCmp opr_cmp isNone Wd Od KD Stp)
section
variable {S : Sta} {ρ : Rho} {Q : T → Rho → Prop} {a b c e : Expr} {es rest : List Expr} {x : Str} {p pos : Pos}
def TruO : PyData → Option Bool
  | .none => some false
  | .bool b => some b
  | .int i => some (i != 0)
  | .list xs => some (!xs.isEmpty)
  | .tuple xs => some (!xs.isEmpty)
  | _ => none
abbrev Plain (e : Expr) : Prop := ∀ env whole, isTrue e env whole = (do let v ← whole; standAt e.pos; holding [v] (truthy v))
theorem wt_truth {Q : Bool → Rho → Prop} (h : WO S e ρ fun o ρ1 => ∃ d k, o.view ρ1 = some d ∧ TruO d = some k ∧ Q k ρ1) (he : Plain e) : WT S e ρ Q := by
  intro X B st σ τ G H E QV kq
  refine Tee.WT.by (pt_truth pe_U (he _)) (h X B st σ τ G H E _ fun o ρ1 v G1 H1 q E1 ok => ?_)
  obtain ⟨d, k, e1, e2, q⟩ := q
  have dd := Opd.dd E1 ok e1
  have E0 := Opd.drop E1
  refine ⟨k, ?_, kq _ _ _ _ q E0⟩
  cases dd with
  | non => cases e2; rfl
  | bl b => cases e2; rfl
  | int i => cases e2; rfl
  | str x => cases e2
  | lst h r =>
    cases e2
    exact .inl ⟨_, SqL.of h, by rw [Tee.DdAll.empty r]⟩
  | tup h r =>
    cases e2
    exact .inr (.inl ⟨_, SqT.of h, by rw [Tee.DdAll.empty r]⟩)
  | dct0 h => cases e2
  | dct1 h => cases e2
theorem wt_not {Q : Bool → Rho → Prop} (h : WT S a ρ fun k ρ1 => Q (!k) ρ1) : WT S (.UnaryOp .Not a pos) ρ Q := fun X B st σ τ G H E QV kq =>
  Tee.WT.by (pt_not pt_U) (h X B st σ τ G H E _ fun k ρ1 G2 H2 q E2 => kq _ _ _ _ q E2)
theorem wt_bool {op : BoolOp} {Q : Bool → Rho → Prop} (h : WW S (.BoolOp op es pos) ρ Q) : WT S (.BoolOp op es pos) ρ Q := fun X B st σ τ G H E QV kq => Tee.WT.by pw_U.pt (h X B st σ τ G H E QV kq)
theorem ww_and1 {Q : Bool → Rho → Prop} (h : WT S a ρ Q) : WW S (.BoolOp .And [a] pos) ρ Q := fun X B st σ τ G H E QV kq => Tee.WW.by (pw_and1 pt_U) (h X B st σ τ G H E QV kq)
theorem ww_or1 {Q : Bool → Rho → Prop} (h : WT S a ρ Q) : WW S (.BoolOp .Or [a] pos) ρ Q := fun X B st σ τ G H E QV kq => Tee.WW.by (pw_or1 pt_U) (h X B st σ τ G H E QV kq)
theorem ww_and {Q : Bool → Rho → Prop} (h : WT S a ρ fun k ρ1 => (k = true → WW S (.BoolOp .And (b :: rest) pos) ρ1 Q) ∧ (k = false → Q false ρ1)) : WW S (.BoolOp .And (a :: b :: rest) pos) ρ Q := fun X B st σ τ G H E QV kq =>
  Tee.WW.by (pw_and pt_U pw_U) (h X B st σ τ G H E _ fun k ρ1 G2 H2 q E2 => by
    cases k with
    | true =>
      rw [if_pos rfl]
      exact q.1 rfl X B st σ τ G2 H2 E2 QV kq
    | false =>
      rw [if_neg (by decide)]
      exact kq _ _ _ _ (q.2 rfl) E2)
theorem ww_or {Q : Bool → Rho → Prop} (h : WT S a ρ fun k ρ1 => (k = false → WW S (.BoolOp .Or (b :: rest) pos) ρ1 Q) ∧ (k = true → Q true ρ1)) : WW S (.BoolOp .Or (a :: b :: rest) pos) ρ Q := fun X B st σ τ G H E QV kq =>
  Tee.WW.by (pw_or pt_U pw_U) (h X B st σ τ G H E _ fun k ρ1 G2 H2 q E2 => by
    cases k with
    | true =>
      rw [if_pos rfl]
      exact kq _ _ _ _ (q.2 rfl) E2
    | false =>
      rw [if_neg (by decide)]
      exact q.1 rfl X B st σ τ G2 H2 E2 QV kq)
theorem EnvR.isB {K : PySem.W.Frag} {B : Base} {ρ : Rho} {σ : L2.St} {τ : List Cell} {G H : Hp} {k : Bool} {v : V} (E : EnvR K B ρ σ ((.sh (.bool k), v) :: τ) [] G H) : v = .bl k := E.dd.blV
theorem wv_one {op : BoolOp} (h : WV S a ρ Q) : WV S (.BoolOp op [a] pos) ρ Q := fun X B st σ τ G H E QV kq => Tee.WE.by (pe_one pe_U) (h X B st σ τ G H E QV kq)
theorem wv_and (h : WV S a ρ fun t ρ1 => ∃ k, t = .sh (.bool k) ∧ (k = true → WV S (.BoolOp .And (b :: rest) pos) ρ1 Q) ∧ (k = false → Q (.sh (.bool false)) ρ1)) : WV S (.BoolOp .And (a :: b :: rest) pos) ρ Q := by
  intro X B st σ τ G H E QV kq
  refine Tee.WE.by (pe_and pe_U pe_U) (h X B st σ τ G H E _ fun t ρ1 v G2 H2 q E2 => ?_)
  obtain ⟨k, rfl, q1, q2⟩ := q
  cases E2.isB
  refine ⟨k, rfl, ?_⟩
  cases k with
  | true =>
    rw [if_pos rfl]
    exact q1 rfl X B st σ τ G2 H2 E2.dropT QV kq
  | false =>
    rw [if_neg (by decide)]
    exact kq _ _ _ _ _ (q2 rfl) E2
theorem wv_or (h : WV S a ρ fun t ρ1 => ∃ k, t = .sh (.bool k) ∧ (k = false → WV S (.BoolOp .Or (b :: rest) pos) ρ1 Q) ∧ (k = true → Q (.sh (.bool true)) ρ1)) : WV S (.BoolOp .Or (a :: b :: rest) pos) ρ Q := by
  intro X B st σ τ G H E QV kq
  refine Tee.WE.by (pe_or pe_U pe_U) (h X B st σ τ G H E _ fun t ρ1 v G2 H2 q E2 => ?_)
  obtain ⟨k, rfl, q1, q2⟩ := q
  cases E2.isB
  refine ⟨k, rfl, ?_⟩
  cases k with
  | false =>
    rw [if_neg (by decide)]
    exact q1 rfl X B st σ τ G2 H2 E2.dropT QV kq
  | true =>
    rw [if_pos rfl]
    exact kq _ _ _ _ _ (q2 rfl) E2
theorem wv_not (h : WV S a ρ fun t ρ1 => ∃ k, t = .sh (.bool k) ∧ Q (.sh (.bool (!k))) ρ1) : WV S (.UnaryOp .Not a pos) ρ Q := by
  intro X B st σ τ G H E QV kq
  refine Tee.WE.by (pe_not pe_U) (h X B st σ τ G H E _ fun t ρ1 v G2 H2 q E2 => ?_)
  obtain ⟨k, rfl, q⟩ := q
  cases E2.isB
  exact ⟨k, rfl, kq _ _ _ _ _ q (E2.dropT.bl _)⟩
theorem wv_ifExp (h : WT S c ρ fun k ρ1 => (k = true → WV S a ρ1 Q) ∧ (k = false → WV S b ρ1 Q)) : WV S (.IfExp c a b pos) ρ Q := by
  intro X B st σ τ G H E QV kq
  refine Tee.WE.by (pe_ifExp pt_U pe_U pe_U) (h X B st σ τ G H E _ fun k ρ1 G2 H2 q E2 => ?_)
  cases k with
  | true =>
    rw [if_pos rfl]
    exact q.1 rfl X B st σ τ G2 H2 E2 QV kq
  | false =>
    rw [if_neg (by decide)]
    exact q.2 rfl X B st σ τ G2 H2 E2 QV kq
theorem wv_chain {op op' : CmpOp} (h : WO S a ρ fun oa ρ1 => WO S b ρ1 fun ob ρ2 => CmpO op oa ob ρ2 fun k => (k = true → WO S c ρ2 fun oc ρ3 => CmpO op' ob oc ρ3 fun k => Q (.sh (.bool k)) ρ3) ∧ (k = false → Q (.sh (.bool false)) ρ2))
    (hm : lastMarks [op, op'] [b, c] = false) : WV S (.Compare a [op, op'] [b, c] pos) ρ Q := by
  intro X B st σ τ G H E QV kq pins s I
  refine (pe_chain (opr_cmpX (room65 st.fit.room) op) (opr_cmpX (room65 st.fit.room) op') pe_U pe_U pe_U hm).run pins s σ H QV I (two st E h fun oa ob ρ2 v u G2 H2 q E2 ok1 ok2 => ?_)
  obtain ⟨da, db, e1, e2, q⟩ := q
  refine cmpX_sound (Opd.dd (Opd.drop E2) ok1 e1) (Opd.dd E2 ok2 e2) q fun k q => ⟨k, rfl, ?_⟩
  cases k with
  | true =>
    rw [if_pos rfl]
    refine (q.1 rfl) X B st σ _ G2 H2 E2 _ fun oc ρ3 z G3 H3 q3 E3 ok3 => ?_
    obtain ⟨db', dc, e3, e4, q3⟩ := q3
    exact cmpX_sound (Opd.dd (Opd.drop E3) ok2 e3) (Opd.dd E3 ok3 e4) q3 fun k q4 => kq _ _ _ _ _ q4 ((Opd.drop (Opd.drop (Opd.drop E3))).bl k)
  | false =>
    rw [if_neg (by decide)]
    exact kq _ _ _ _ _ (q.2 rfl) ((Opd.drop (Opd.drop E2)).bl false)
theorem wt_chain {op op' : CmpOp} {Q : Bool → Rho → Prop} (h : WO S a ρ fun oa ρ1 => WO S b ρ1 fun ob ρ2 => CmpO op oa ob ρ2 fun k => (k = true → WO S c ρ2 fun oc ρ3 => CmpO op' ob oc ρ3 fun k => Q k ρ3) ∧ (k = false → Q false ρ2))
    (hm : lastMarks [op, op'] [b, c] = false) : WT S (.Compare a [op, op'] [b, c] pos) ρ Q := by
  intro X B st σ τ G H E QV kq pins s I
  refine (pt_chain (opr_cmpX (room65 st.fit.room) op) (opr_cmpX (room65 st.fit.room) op') pe_U pe_U pe_U hm).run pins s σ H QV I (two st E h fun oa ob ρ2 v u G2 H2 q E2 ok1 ok2 => ?_)
  obtain ⟨da, db, e1, e2, q⟩ := q
  refine cmpX_sound (Opd.dd (Opd.drop E2) ok1 e1) (Opd.dd E2 ok2 e2) q fun k q => ⟨k, rfl, ?_⟩
  cases k with
  | true =>
    rw [if_pos rfl]
    refine (q.1 rfl) X B st σ _ G2 H2 E2 _ fun oc ρ3 z G3 H3 q3 E3 ok3 => ?_
    obtain ⟨db', dc, e3, e4, q3⟩ := q3
    exact cmpX_sound (Opd.dd (Opd.drop E3) ok2 e3) (Opd.dd E3 ok3 e4) q3 fun k q4 => ⟨k, rfl, kq _ _ _ _ q4 (Opd.drop (Opd.drop (Opd.drop E3)))⟩
  | false =>
    rw [if_neg (by decide)]
    exact ⟨false, rfl, kq _ _ _ _ (q.2 rfl) (Opd.drop (Opd.drop E2))⟩
def atom : PyData → Bool
  | .none => true
  | .bool _ => true
  | .int _ => true
  | .str _ => true
  | _ => false
theorem _root_.Tee.Dd.atomO {H G : Hp} {v : V} {d : PyData} (h : Dd H v d) (e : atom d = true) : Dd G v d := by
  cases h with
  | non => exact .non
  | bl b => exact .bl b
  | int i => exact .int i
  | str x => exact .str x
  | _ => cases e
theorem atom_kd {K : PySem.W.Frag} {B : Base} {ρ : Rho} {σ : L2.St} {τ : List Cell} {G H : Hp} {D : PyData → Prop} {QV : VK} (E : EnvR K B ρ σ τ [] G H) (kq : ∀ d v G' H', D d → atom d = true → EnvR K B ρ σ ((.sh d, v) :: τ) [] G' H' → QV v H') : KD H (fun _ => none) H (fun d => atom d = true ∧ D d) QV :=
  fun d v G2 R2 H2 q s dd => kq d v G H2 q.2 q.1 ((E.grow fun b o e => s.keep b o rfl e).addSh (dd.atomO q.1))
abbrev NoStar (es : List Expr) : Prop := match es with
  | [] => True
  | e :: es => (∀ env, starEach (e :: es) env = (false, eval e env) :: starEach es env) ∧ NoStar es
theorem wv_b1 {id : String} {D : PyData → (PyData → Prop) → Prop} (hB : B1 S.tee id D) (h : WO S a ρ fun o ρ1 => ∃ d, o.view ρ1 = some d ∧ D d fun r => atom r = true ∧ Q (.sh r) ρ1) (hv : bootBuiltins x = some (.builtin id)) (hm : S.mg x = none) (hg : S.sc.names.lookup x = some .globalImplicit)
    (hn : x ≠ "__name__") (hdb : (x == ("__debug__" : Str)) = false) (he : NoStar [a]) : WV S (.Call (.Name x p) [a] [] pos) ρ Q := by
  intro X B st σ τ G H E QV kq
  obtain ⟨r, hc, hr⟩ := hB
  refine Tee.WE.by (pe_callB (hc X st.fit.tee) (by show X.env.scope.names.lookup x = _; rw [st.fit.sc]; exact hg) (by rw [st.fit.mg]; exact hm) hv (pa_cons pe_U pa_nil (he.1 _)) hn hdb (he.1 _) rfl) ?_
  refine h X B st σ τ G H E _ fun o ρ1 v G1 H1 q E1 ok => ?_
  obtain ⟨d, e1, q⟩ := q
  exact hr X st.fit.tee H1 _ H1 v d _ QV (wd_self H1) (Opd.dd E1 ok e1).od q (atom_kd (Opd.drop E1) fun d v G' H' q _ E' => kq _ _ _ _ _ q E')
theorem wv_t1 {id : String} {D : PyData → (PyData → Prop) → Prop} (hB : T1 S.tee id D) (h : WO S a ρ fun o ρ1 => ∃ d, o.view ρ1 = some d ∧ D d fun r => atom r = true ∧ Q (.sh r) ρ1) (hv : bootBuiltins x = some (.type id)) (hm : S.mg x = none) (hg : S.sc.names.lookup x = some .globalImplicit)
    (hn : x ≠ "__name__") (hdb : (x == ("__debug__" : Str)) = false) (he : NoStar [a]) : WV S (.Call (.Name x p) [a] [] pos) ρ Q := by
  intro X B st σ τ G H E QV kq
  obtain ⟨r, hc, hr⟩ := hB
  refine Tee.WE.by (pe_callTy (hc X st.fit.tee) (by show X.env.scope.names.lookup x = _; rw [st.fit.sc]; exact hg) (by rw [st.fit.mg]; exact hm) hv (pa_cons pe_U pa_nil (he.1 _)) hn hdb (he.1 _) rfl) ?_
  refine h X B st σ τ G H E _ fun o ρ1 v G1 H1 q E1 ok => ?_
  obtain ⟨d, e1, q⟩ := q
  exact hr X st.fit.tee H1 _ H1 v d _ QV (wd_self H1) (Opd.dd E1 ok e1).od q (atom_kd (Opd.drop E1) fun d v G' H' q _ E' => kq _ _ _ _ _ q E')
theorem wv_b2 {id : String} {D : PyData → PyData → (PyData → Prop) → Prop} (hB : B2 S.tee id D) (h : WO S a ρ fun oa ρ1 => WO S b ρ1 fun ob ρ2 => ∃ d d', oa.view ρ2 = some d ∧ ob.view ρ2 = some d' ∧ D d d' fun r => atom r = true ∧ Q (.sh r) ρ2) (hv : bootBuiltins x = some (.builtin id)) (hm : S.mg x = none) (hg : S.sc.names.lookup x = some .globalImplicit)
    (hn : x ≠ "__name__") (hdb : (x == ("__debug__" : Str)) = false) (he : NoStar [a, b]) (hpl : ∀ env, (backTo pos (starEach [b] env)).any (·.1) = false) : WV S (.Call (.Name x p) [a, b] [] pos) ρ Q := by
  intro X B st σ τ G H E QV kq
  obtain ⟨r, hc, hr⟩ := hB
  refine Tee.WE.by (pe_callB (hc X st.fit.tee) (by show X.env.scope.names.lookup x = _; rw [st.fit.sc]; exact hg) (by rw [st.fit.mg]; exact hm) hv (pa_cons pe_U (pa_cons pe_U pa_nil (he.2.1 _)) (he.1 _)) hn hdb (he.1 _) (hpl _)) ?_
  refine two (Z := fun v u H2 => r X [v, u] H2 QV) st E h fun oa ob ρ2 v u G2 H2 q E2 ok1 ok2 => ?_
  obtain ⟨d, d', e1, e2, q⟩ := q
  exact hr X st.fit.tee H2 _ H2 v u d d' _ QV (wd_self H2) (Opd.dd (Opd.drop E2) ok1 e1).od (Opd.dd E2 ok2 e2).od q (atom_kd (Opd.drop (Opd.drop E2)) fun d v G' H' q _ E' => kq _ _ _ _ _ q E')
end
theorem trees_get {K : PySem.W.Frag} {G H : Hp} {d : PyData} : ∀ {ts : List T} {vs : List V} {f : Addr → Prop} {j : Nat}, qc0 K G H ts vs f → ts[j]? = some (.sh d) → ∃ v, vs[j]? = some v ∧ Dd G v d
  | [], _, _, _, _, h => by cases h
  | t :: ts, [], _, _, h, _ => by unfold qc0 at h; exact h.elim
  | t :: ts, v :: vs, f, 0, h, e => by
    unfold qc0 at h
    obtain ⟨f1, f2, h1, _⟩ := h
    cases e
    unfold qe0 at h1
    exact ⟨v, rfl, h1⟩
  | t :: ts, v :: vs, f, j + 1, h, e => by
    unfold qc0 at h
    obtain ⟨f1, f2, h1, h2, _⟩ := h
    exact trees_get (ts := ts) (vs := vs) (j := j) h2 e
def seqT : T → Option (List T)
  | .sh (.list ds) => some (ds.map .sh)
  | .sh (.tuple ds) => some (ds.map .sh)
  | .lst ts => some ts
  | .tup ts => some ts
  | _ => none
theorem atI_trees {K : PySem.W.Frag} {G H : Hp} {ts : List T} {vs : List V} {f : Addr → Prop} {i : Int} {d : PyData} (h : qc0 K G H ts vs f) (e : atI ts i = some (.sh d)) : ∃ v, atI vs i = some v ∧ Dd G v d := by
  unfold atI at e ⊢
  rw [← h.len]
  cases q : ixN ts.length i with
  | none => rw [q] at e; cases e
  | some j =>
    rw [q] at e
    exact trees_get h e
theorem dds_trees {K : PySem.W.Frag} {G H : Hp} : ∀ {vs : List V} {ds : List PyData}, DdAll G vs ds → qc0 K G H (ds.map .sh) vs fun _ => False
  | _, _, .nil => by unfold qc0; trivial
  | _, _, .cons h t => by
    show qc0 K G H (.sh _ :: List.map _ _) _ _
    unfold qc0
    exact ⟨fun _ => False, fun _ => False, by unfold qe0; exact h, dds_trees t, fun _ q => q.elim, fun _ q => q, fun _ q => q⟩
theorem seqT_at {K : PySem.W.Frag} {G H : Hp} (sm : Same G H) {t : T} {v : V} {f : Addr → Prop} {ts : List T} (h : qe0 K G H t v f) (e : seqT t = some ts) : ∃ l vs g, v = .ref l ∧ (H l = some (.lst vs) ∨ H l = some (.tup vs)) ∧ qc0 K G H ts vs g := by
  unfold seqT at e
  split at e
  · cases e
    unfold qe0 at h
    cases h with
    | lst h r => exact ⟨_, _, _, rfl, .inl (sm _ _ h), dds_trees r⟩
  · cases e
    unfold qe0 at h
    cases h with
    | tup h r => exact ⟨_, _, _, rfl, .inr (sm _ _ h), dds_trees r⟩
  · cases e
    unfold qe0 at h
    obtain ⟨l, vs, g, rfl, h1, _, _, _, h5⟩ := h
    exact ⟨l, vs, g, rfl, .inl h1, h5⟩
  · cases e
    unfold qe0 at h
    obtain ⟨l, vs, g, rfl, h1, _, _, _, h5⟩ := h
    exact ⟨l, vs, g, rfl, .inr h1, h5⟩
  · cases e
section
variable {S : Sta} {ρ : Rho} {Q : T → Rho → Prop} {a b c e : Expr} {es rest : List Expr} {x : Str} {p pos : Pos}
def IxO (oa ob : Opd) (ρ : Rho) (Q : T → Rho → Prop) : Prop := ∃ t ts i d, oa.tree ρ = some t ∧ seqT t = some ts ∧ ob.view ρ = some (.int i) ∧ atI ts i = some (.sh d) ∧ Q (.sh d) ρ
theorem wv_ix (h : WO S a ρ fun oa ρ1 => WO S b ρ1 fun ob ρ2 => IxO oa ob ρ2 Q) (hs : PlainIx b) : WV S (.Subscript a b pos) ρ Q := by
  intro X B st σ τ G H E QV kq pins s I
  refine (pe_ix (r := fun x y H Q' => rIxL X.K x y H Q' ∨ rIxT X.K x y H Q') (ix_list.or ix_tup) pe_U pe_U hs).run pins s σ H QV I (two st E h fun oa ob ρ2 v u G2 H2 q E2 ok1 ok2 => ?_)
  have Ea := Opd.drop E2
  have E0 := Opd.drop Ea
  obtain ⟨t, ts, i, d, e1, es, e2, e3, q⟩ := q
  obtain ⟨f, ht, _⟩ := Opd.at Ea ok1 e1
  obtain ⟨l, vs, g, rfl, hl, tr⟩ := seqT_at E0.sm ht es
  obtain ⟨z, k1, dz⟩ := atI_trees tr e3
  rcases hl with hl | hl
  · exact .inl ⟨_, _, _, z, rfl, (Opd.dd E2 ok2 e2).intV, SqL.of hl, k1, kq _ _ _ _ _ q (E0.addSh dz)⟩
  · exact .inr ⟨_, _, _, z, rfl, (Opd.dd E2 ok2 e2).intV, SqT.of hl, k1, kq _ _ _ _ _ q (E0.addSh dz)⟩
def LenT (t : T) (Q : Int → Prop) : Prop := match t with
  | .sh (.str s) => s.length ≤ sizeLine ∧ Q (s.length : Nat)
  | .scr ns => Q (ns.length : Nat)
  | t => ∃ ts, seqT t = some ts ∧ Q (ts.length : Nat)
theorem wv_len (h : WO S a ρ fun o ρ1 => ∃ t, o.tree ρ1 = some t ∧ LenT t fun n => Q (.sh (.int n)) ρ1) (hm : S.mg "len" = none) (hg : S.sc.names.lookup ("len" : Str) = some .globalImplicit) (ha : NoStar [a]) : WV S (.Call (.Name "len" p) [a] [] pos) ρ Q := by
  intro X B st σ τ G H E QV kq
  have f := st.fit
  have hcl : CallR X (.builtin "len") (fun xs H Q => (∃ p ys, xs = [.ref p] ∧ (SqL X.K H p ys ∨ SqT X.K H p ys) ∧ Q (.int ys.length) H) ∨ ∃ z, xs = [.str z] ∧ z.length ≤ sizeLine ∧ Q (.int z.length) H) := by
    intro pins s σ H xs us Q I r h
    exact h.elim (call_len_seq pins s σ H xs us Q I r) (call_len_str pins s σ H xs us Q I r)
  refine Tee.WE.by (pe_callB hcl (by show X.env.scope.names.lookup _ = _; rw [f.sc]; exact hg) (by rw [f.mg]; exact hm) PySem.boot_len (pa_cons pe_U pa_nil (ha.1 _)) (by decide) (by decide) (ha.1 _) rfl) ?_
  refine h X B st σ τ G H E _ fun o ρ1 v G1 H1 q E1 ok => ?_
  obtain ⟨t, e1, q⟩ := q
  obtain ⟨g, ht, _⟩ := Opd.at E1 ok e1
  unfold LenT at q
  split at q
  · unfold qe0 at ht
    cases ht
    exact .inr ⟨_, rfl, q.1, kq _ _ _ _ _ q.2 ((Opd.drop E1).int _)⟩
  · rename_i ns
    unfold qe0 at ht
    obtain ⟨a, rfl, z⟩ := ht
    exact .inl ⟨a, ns.map V.int, rfl, .inl (Same.seq (Opd.drop E1).sm (by rw [f.K]; exact z.seq)), by rw [List.length_map]; exact kq _ _ _ _ _ q ((Opd.drop E1).int _)⟩
  · obtain ⟨ts, es, q⟩ := q
    obtain ⟨l, vs, g, rfl, hl, tr⟩ := seqT_at (Opd.drop E1).sm ht es
    have hq : QV (.int (vs.length : Nat)) H1 := by
      rw [← tr.len]
      exact kq _ _ _ _ _ q ((Opd.drop E1).int _)
    rcases hl with hl | hl
    · exact .inl ⟨l, vs, rfl, .inl (SqL.of hl), hq⟩
    · exact .inl ⟨l, vs, rfl, .inr (SqT.of hl), hq⟩
def WL (S : Sta) (es : List Expr) (ρ : Rho) (Q : List T → Rho → Prop) : Prop :=
  ∀ X B, Std S X B → ∀ σ τ G H, EnvR S.K B ρ σ τ [] G H → ∃ t, PA X es t ∧ ∀ QV : List V → Hp → Prop, (∀ ts ρ' vs G' H', Q ts ρ' → ts.length = vs.length → EnvR S.K B ρ' σ (ts.zip vs ++ τ) [] G' H' → QV vs H') → t σ H QV
theorem wl_nil {Q : List T → Rho → Prop} (q : Q [] ρ) : WL S [] ρ Q := fun X B st σ τ G H E => ⟨_, pa_nil, fun QV kq => kq [] ρ [] G H q rfl E⟩
theorem wl_cons {Q : List T → Rho → Prop} (h : WV S e ρ fun t ρ1 => WL S es ρ1 fun ts ρ2 => Q (t :: ts) ρ2) (hs : ∀ env, starEach (e :: es) env = (false, eval e env) :: starEach es env) : WL S (e :: es) ρ Q := by
  intro X B st σ τ G H E
  refine ⟨_, pa_cons pe_U Tee.pa_U (hs _), fun QV kq => h X B st σ τ G H E _ fun t ρ1 v G1 H1 q E1 => ?_⟩
  obtain ⟨rd, pt, ht⟩ := q X B st σ _ G1 H1 E1
  exact fun pos pins s I => pt.run pos pins s σ H1 _ I (ht _ fun ts ρ2 vs G2 H2 q2 hl E2 => kq (t :: ts) ρ2 (v :: vs) G2 H2 q2 (congrArg (· + 1) hl) (E2.permT List.perm_middle))
theorem wv_list (h : WL S es ρ fun ts ρ1 => ts.length ≤ sizeLine ∧ Q (.lst ts) ρ1) : WV S (.List es pos) ρ Q := by
  intro X B st σ τ G H E QV kq
  obtain ⟨rd, pt, ht⟩ := h X B st σ τ G H E
  exact Tee.WE.by (pe_lst pt) (ht _ fun ts ρ1 vs G1 H1 q hl E1 => ⟨by rw [← hl]; exact q.1, fun p hp => kq _ _ _ _ _ q.2 (E1.newL hl hp)⟩)
theorem wv_tuple {k : Nat} (h : WL S es ρ fun ts ρ1 => ts.length ≤ sizeLine ∧ Q (.tup ts) ρ1) : WV S (.Tuple es k pos) ρ Q := by
  intro X B st σ τ G H E QV kq
  obtain ⟨rd, pt, ht⟩ := h X B st σ τ G H E
  exact Tee.WE.by (pe_tup pt) (ht _ fun ts ρ1 vs G1 H1 q hl E1 => ⟨by rw [← hl]; exact q.1, fun p hp => kq _ _ _ _ _ q.2 (E1.newT hl hp)⟩)
end
end Oak
namespace Tee
def gt (l : List Int) (v : Int) : Nat := (l.filter fun x => decide (v < x)).length
theorem gt_nil (v : Int) : gt [] v = 0 := rfl
theorem gt_cons (y : Int) (l : List Int) (v : Int) : gt (y :: l) v = gt l v + (if v < y then 1 else 0) := by
  unfold gt
  by_cases h : v < y
  · rw [List.filter_cons_of_pos (by simpa using h), if_pos h, List.length_cons]
  · rw [List.filter_cons_of_neg (by simpa using h), if_neg h, Nat.add_zero]
theorem gt_le (l : List Int) (v w : Int) (h : v ≤ w) : gt l w ≤ gt l v := by
  induction l with
  | nil => exact Nat.le_refl _
  | cons y l ih =>
    rw [gt_cons, gt_cons]
    by_cases h1 : w < y
    · rw [if_pos h1, if_pos (by omega)]; omega
    · rw [if_neg h1]; split <;> omega
theorem gt_mem {l : List Int} {x : Int} : x ∈ l ↔ gt l x < gt l (x - 1) := by
  induction l with
  | nil => simp [gt_nil]
  | cons y l ih =>
    rw [List.mem_cons, gt_cons, gt_cons, ih]
    have := gt_le l (x - 1) x (by omega)
    constructor
    · rintro (rfl | h)
      · rw [if_neg (by omega), if_pos (by omega)]; omega
      · split <;> split <;> omega
    · intro h
      by_cases e : x = y
      · exact .inl e
      · right
        by_cases h1 : x < y
        · rw [if_pos h1, if_pos (by omega)] at h; omega
        · rw [if_neg h1, if_neg (by omega)] at h; omega
theorem gt_lt {l : List Int} {x : Int} (h : x ∈ l) : gt l x < l.length := by
  unfold gt
  refine List.length_filter_lt_length_iff_exists.mpr ⟨x, h, by simp⟩
theorem gt_set {l : List Int} {i : Nat} {x : Int} (h : l[i]? = some x) (v : Int) : gt (l.set i (x + 1)) v = gt l v + (if v = x then 1 else 0) := by
  induction l generalizing i with
  | nil => simp at h
  | cons y l ih =>
    cases i with
    | zero =>
      simp at h
      subst h
      rw [List.set_cons_zero, gt_cons, gt_cons]
      by_cases e : v = y
      · rw [if_pos (by omega), if_neg (by omega), if_pos e]
      · rw [if_neg e]
        by_cases e2 : v < y
        · rw [if_pos (by omega), if_pos e2]
        · rw [if_neg (by omega), if_neg e2]
    | succ i =>
      rw [List.set_cons_succ, gt_cons, gt_cons, ih (by simpa using h)]
      omega
def Dec (c : List Int) : Prop := c.Pairwise fun a b => b ≤ a
theorem dec_gt {c : List Int} (h : Dec c) (v : Int) : ∀ {i : Nat} {x : Int}, c[i]? = some x → (i < gt c v ↔ v < x) := by
  induction c with
  | nil => intro i x e; simp at e
  | cons y c ih =>
    intro i x e
    obtain ⟨h1, h2⟩ := List.pairwise_cons.mp h
    rw [gt_cons]
    by_cases hv : v < y
    · rw [if_pos hv]
      cases i with
      | zero => simp at e; subst e; omega
      | succ i =>
        have := ih h2 (i := i) (x := x) (by simpa using e)
        omega
    · rw [if_neg hv]
      have z : gt c v = 0 := by
        unfold gt
        rw [List.length_eq_zero_iff, List.filter_eq_nil_iff]
        intro a ha
        have := h1 a ha
        simp
        omega
      rw [z]
      have : x ≤ y := by
        cases i with
        | zero => simp at e; omega
        | succ i => exact h1 x (List.mem_of_getElem? (by simpa using e))
      omega
structure Rel (l c : List Int) : Prop where
  len : l.length = c.length
  gt : ∀ v, gt l v = gt c v
  dec : Dec c
theorem Rel.val {l c : List Int} (R : Rel l c) {i : Nat} {x : Int} (h : l[i]? = some x) : c[Tee.gt l x]? = some x ∧ ∀ y, 0 < Tee.gt l x → c[Tee.gt l x - 1]? = some y → x < y := by
  have hm : x ∈ l := List.mem_of_getElem? h
  have h1 := gt_lt hm
  rw [R.len] at h1
  have hc : c[Tee.gt l x]? = some c[Tee.gt l x] := List.getElem?_eq_getElem h1
  have a := dec_gt R.dec x hc
  rw [← R.gt x] at a
  have b := dec_gt R.dec (x - 1) hc
  rw [← R.gt (x - 1)] at b
  have d := gt_mem.mp hm
  have e : c[Tee.gt l x] = x := by omega
  refine ⟨by rw [hc, e], fun y h0 hy => ?_⟩
  have := dec_gt R.dec x hy
  rw [← R.gt x] at this
  omega
theorem Rel.at {l c : List Int} (R : Rel l c) {k : Nat} {x : Int} (hk : c[k]? = some x) (hd : ∀ y, 0 < k → c[k - 1]? = some y → x < y) : Tee.gt l x = k ∧ x ∈ l := by
  have a := dec_gt R.dec x hk
  have b := dec_gt R.dec (x - 1) hk
  have hkl := (List.getElem?_eq_some_iff.mp hk).1
  have g : Tee.gt c x = k := by
    by_cases h0 : 0 < k
    · have hy : c[k - 1]? = some c[k - 1] := List.getElem?_eq_getElem (by omega)
      have := dec_gt R.dec x hy
      have := hd _ h0 hy
      omega
    · omega
  refine ⟨by rw [R.gt, g], gt_mem.mpr ?_⟩
  rw [R.gt, R.gt, g]
  omega
theorem Rel.bump {l c : List Int} (R : Rel l c) {i k : Nat} {x : Int} (hi : l[i]? = some x) (hk : c[k]? = some x) (hd : ∀ y, 0 < k → c[k - 1]? = some y → x < y) : Rel (l.set i (x + 1)) (c.set k (x + 1)) := by
  refine ⟨by rw [List.length_set, List.length_set]; exact R.len, fun v => by rw [gt_set hi, gt_set hk, R.gt], ?_⟩
  unfold Dec
  rw [List.pairwise_iff_getElem]
  intro a b ha hb hab
  rw [List.length_set] at ha hb
  have hp := List.pairwise_iff_getElem.mp R.dec
  rw [List.getElem_set, List.getElem_set]
  have hx : ∀ h, c[k]'h = x := fun h => by
    rw [List.getElem?_eq_getElem h] at hk
    exact Option.some.inj hk
  by_cases h1 : k = a
  · subst h1
    rw [if_pos rfl, if_neg (by omega)]
    have := hp k b ha hb hab
    rw [hx] at this
    omega
  · rw [if_neg h1]
    by_cases h2 : k = b
    · subst h2
      rw [if_pos rfl]
      have hy : c[k - 1]? = some c[k - 1] := List.getElem?_eq_getElem (by omega)
      have q := hd _ (by omega) hy
      by_cases h3 : a = k - 1
      · subst h3; omega
      · have := hp a (k - 1) ha (by omega) (by omega)
        omega
    · rw [if_neg h2]
      exact hp a b ha hb hab
def bump (l : List Int) (j : Nat) : List Int := l.set j (l.getD j 0 + 1)
theorem bump_at {l : List Int} {j : Nat} {x : Int} (h : l[j]? = some x) : bump l j = l.set j (x + 1) := by
  unfold bump
  rw [List.getD_eq_getElem?_getD, h]
  rfl
theorem bump_len (l : List Int) (j : Nat) : (bump l j).length = l.length := List.length_set
def bumps (l : List Int) (hs : List Nat) : List Int := hs.foldl bump l
def ranksFrom : List Int → List Nat → List Nat
  | _, [] => []
  | l, h :: hs => gt l (l.getD h 0) :: ranksFrom (bump l h) hs
def OkFrom : List Int → List Nat → Prop
  | _, [] => True
  | c, k :: ks => k < c.length ∧ (∀ x y, 0 < k → c[k]? = some x → c[k - 1]? = some y → x < y) ∧ OkFrom (bump c k) ks
theorem OkFrom.at {c : List Int} {ks : List Nat} (h : OkFrom c ks) : ∀ {i k : Nat}, ks[i]? = some k → k < c.length ∧ ∀ x y, 0 < k → (bumps c (ks.take i))[k]? = some x → (bumps c (ks.take i))[k - 1]? = some y → x < y := by
  induction ks generalizing c with
  | nil => intro i k e; simp at e
  | cons a ks ih =>
    intro i k e
    obtain ⟨h1, h2, h3⟩ := h
    cases i with
    | zero => simp at e; subst e; exact ⟨h1, h2⟩
    | succ i =>
      have := ih h3 (i := i) (k := k) (by simpa using e)
      rw [bump_len] at this
      exact this
def pick (l : List Int) (k : Nat) : Nat := l.findIdx fun x => gt l x == k
def firstFrom : List Int → List Nat → List Nat
  | _, [] => []
  | l, k :: ks => pick l k :: firstFrom (bump l (pick l k)) ks
end Tee
namespace Tee
open PySem PySem.Spec PyProof.Rows L2
section
variable {S : Sta} {ρ : Rho} {R : Out → Prop} {a b c e : Expr} {x y : Str} {p px py pos : Pos}
end
end Tee
namespace Tee
open PySem PySem.Spec PyProof.Rows L2
mutual
def flatD : PyData → Bool
  | .none | .bool _ | .int _ | .str _ => true
  | .tuple xs => flatAll xs
  | .list _ | .dict _ => false
def flatAll : List PyData → Bool
  | [] => true
  | x :: xs => flatD x && flatAll xs
end
def cutH (G : Hp) (fp : List Addr) : Hp := fun b => if inDec fp b = true then none else G b
section
variable {S : Sta} {ρ : Rho} {R : Out → Prop} {a b c e iter tg : Expr} {es rest : List Expr} {x y : Str} {p px py pos : Pos} {o : OwnO} {dO : PyData}
def WM (S : Sta) (e : Expr) (ρ : Rho) (Q : PyData → Prop) : Prop :=
  ∀ X, Fits S X → ∀ H0 σ G R H, EnvR S.K H0 ρ σ G R H → ∀ QV : VK,
    (∀ ds vs p G2 R2 H2, Q (.list ds) → flatAll ds = true → Stp G R H G2 R2 H2 → H2 p = none → DdAll G2 vs ds → QV (.ref p) (upd H2 p (.lst vs))) →
    (∀ d v G2 R2 H2, Q d → flatD d = true → Stp G R H G2 R2 H2 → Dd G2 v d → QV v H2) → tU X e σ H QV
def spVM (K : PySem.W.Frag) (W : Wp) : Sp := fun vs H Q _ => ∃ (G R : Hp) (as : List SV) (Q0 : PyData → Prop), Wd G R H ∧ ArgsR K G R vs as ∧ W as Q0 ∧
  (∀ xs l us G2 R2 H2, Q0 (.list xs) → flatAll xs = true → Stp G R H G2 R2 H2 → H2 l = some (.lst us) → G2 l = none → R2 l = none → H l = none → DdAll G2 us xs → Q (.ref l) H2) ∧
  ∀ d v G2 R2 H2, Q0 d → flatD d = true → Stp G R H G2 R2 H2 → Dd G2 v d → Q v H2
structure HasM (P : Program) (w : World) (K : PySem.W.Frag) (mg : Str → Option Value) (base : Heap) (x : Str) (k : Nat) (W : Wp) : Prop where
  ex : ∃ (f : Addr) (fd : FuncData) (ps : List Str), mg x = some (.ref f) ∧ PySem.W.keepIn K (.ref f) = true ∧ Binds K fd ps [] ∧ Gok P w K mg base CX0 k f fd ps (spVM K W)
abbrev Sta.hasM (S : Sta) (x : Str) (k : Nat) (W : Wp) : Prop := HasM S.P S.w S.K S.mg S.base x k W
end
def endM (Q : PyData → Prop) : Out → Prop
  | .ro xs => flatAll xs = true ∧ Q (.list xs)
  | .rt d => flatD d = true ∧ Q d
  | _ => False
section
variable {P : Program} {w : World} {K : PySem.W.Frag} {mg : Str → Option Value} {base : Heap}
end
theorem NstAll.len {G H : Hp} : ∀ {its : List (PyData ⊕ List PyData)} {vs : List V} {fps : List Addr}, NstAll G H vs its fps → vs.length = its.length
  | [], [], [], _ => rfl
  | .inl d :: its, v :: vs, [], h => congrArg (· + 1) (NstAll.len (its := its) (vs := vs) h.2)
  | .inl d :: its, v :: vs, p :: fps, h => congrArg (· + 1) (NstAll.len (its := its) (vs := vs) h.2)
  | .inr xs :: its, v :: vs, p :: fps, h => congrArg (· + 1) (NstAll.len (its := its) (vs := vs) h.2.2)
theorem NstAll.consD {G H : Hp} {v : V} {vs : List V} {d : PyData} {its : List (PyData ⊕ List PyData)} {fps : List Addr} (h : Dd G v d) (t : NstAll G H vs its fps) : NstAll G H (v :: vs) (.inl d :: its) fps := by
  cases fps <;> exact ⟨h, t⟩
theorem NstAll.app {G H : Hp} : ∀ {its its2 : List (PyData ⊕ List PyData)} {vs vs2 : List V} {fps fps2 : List Addr}, NstAll G H vs its fps → NstAll G H vs2 its2 fps2 → NstAll G H (vs ++ vs2) (its ++ its2) (fps ++ fps2)
  | [], _, [], _, [], _, _, q => q
  | .inl d :: its, _, v :: vs, _, fps, fps2, h, q => by
    have h : Dd G v d ∧ NstAll G H vs its fps := by cases fps <;> exact h
    exact .consD h.1 (NstAll.app h.2 q)
  | .inr xs :: its, _, v :: vs, _, p :: fps, fps2, h, q => ⟨h.1, h.2.1, NstAll.app (its := its) (vs := vs) h.2.2 q⟩
def New (H G2 R2 H2 : Hp) (a : Addr) : Prop := H a = none ∧ G2 a = none ∧ R2 a = none ∧ ∃ u, H2 a = some u
theorem New.free {H0 H G2 R2 H2 : Hp} {a : Addr} (h : New H G2 R2 H2 a) (s0 : ∀ b o, H0 b = some o → ∃ u, H b = some u) : Free H0 G2 R2 H2 a := ⟨h.2.1, h.2.2.1, none_of_dom s0 h.1, h.2.2.2⟩
def WN (S : Sta) (e : Expr) (ρ : Rho) (Q : List (PyData ⊕ List PyData) → Prop) : Prop :=
  ∀ X, Fits S X → ∀ H0 σ G R H, EnvR S.K H0 ρ σ G R H → ∀ QV : VK,
    (∀ its as v G2 R2 H2, Q its → Stp G R H G2 R2 H2 → OwnAt G2 H2 (.nst as its) v → (∀ a ∈ as, New H G2 R2 H2 a) → QV v H2) → tU X e σ H QV
def WNs (S : Sta) (es : List Expr) (ρ : Rho) (Q : List (PyData ⊕ List PyData) → Prop) : Prop :=
  ∀ X, Fits S X → ∀ H0 σ G R H, EnvR S.K H0 ρ σ G R H → ∃ t, PA X es t ∧ ∀ QV : List V → Hp → Prop,
    (∀ its fps vs G2 R2 H2, Q its → Stp G R H G2 R2 H2 → NstAll G2 H2 vs its fps → fps.Nodup → (∀ a ∈ fps, New H G2 R2 H2 a) → QV vs H2) → t σ H QV
section
variable {S : Sta} {ρ : Rho} {R : Out → Prop} {a b c e iter tg : Expr} {es rest : List Expr} {x y : Str} {p px py pos : Pos} {o : OwnO} {dO : PyData} {Q : List (PyData ⊕ List PyData) → Prop}
def flatI : PyData ⊕ List PyData → Bool
  | .inl d => flatD d
  | .inr xs => flatAll xs
abbrev WpN := List SV → (List (PyData ⊕ List PyData) → Prop) → Prop
def spVN (K : PySem.W.Frag) (W : WpN) : Sp := fun vs H Q _ => ∃ (G R : Hp) (as : List SV) (Q0 : List (PyData ⊕ List PyData) → Prop), Wd G R H ∧ ArgsR K G R vs as ∧ W as Q0 ∧
  ∀ its fas v G2 R2 H2, Q0 its → Stp G R H G2 R2 H2 → OwnAt G2 H2 (.nst fas its) v → (∀ a ∈ fas, New H G2 R2 H2 a) → Q v H2
structure HasN (P : Program) (w : World) (K : PySem.W.Frag) (mg : Str → Option Value) (base : Heap) (x : Str) (k : Nat) (W : WpN) : Prop where
  ex : ∃ (f : Addr) (fd : FuncData) (ps : List Str), mg x = some (.ref f) ∧ PySem.W.keepIn K (.ref f) = true ∧ Binds K fd ps [] ∧ Gok P w K mg base CX0 k f fd ps (spVN K W)
abbrev Sta.hasN (S : Sta) (x : Str) (k : Nat) (W : WpN) : Prop := HasN S.P S.w S.K S.mg S.base x k W
end
def endN (Q : List (PyData ⊕ List PyData) → Prop) : Out → Prop
  | .rn _ its => Q its
  | _ => False
section
variable {P : Program} {w : World} {K : PySem.W.Frag} {mg : Str → Option Value} {base : Heap}
end
end Tee
namespace Tee
open PySem PySem.Spec PyProof.Rows L2
section
variable {S : Sta} {ρ : Rho} {R : Out → Prop} {a b c e iter tg : Expr} {es rest : List Expr} {x y z : Str} {p px py pz pos : Pos} {o : OwnO} {dO : PyData}
theorem DdAll.two {G : Hp} {vs : List V} {a b : PyData} (h : DdAll G vs [a, b]) : ∃ x y, vs = [x, y] ∧ Dd G x a ∧ Dd G y b := by
  cases h with
  | cons h1 t =>
    cases t with
    | cons h2 t =>
      cases t
      exact ⟨_, _, rfl, h1, h2⟩
theorem DdAll.three {G : Hp} {vs : List V} {a b c : PyData} (h : DdAll G vs [a, b, c]) : ∃ x y z, vs = [x, y, z] ∧ Dd G x a ∧ Dd G y b ∧ Dd G z c := by
  cases h with
  | cons h1 t =>
    obtain ⟨y, z, rfl, h2, h3⟩ := t.two
    exact ⟨_, _, _, rfl, h1, h2, h3⟩
theorem wtg_triple (i j l : Nat) {kt : Nat} {d1 d2 d3 : PyData} {K : Rho → Prop} (hN : S.N[i]? = some x) (hl : L2.Loc S.sc x) (hf : S.fn x = true ∨ S.sc.names.lookup x = some .local)
    (hN' : S.N[j]? = some y) (hl' : L2.Loc S.sc y) (hf' : S.fn y = true ∨ S.sc.names.lookup y = some .local) (hN2 : S.N[l]? = some z) (hl2 : L2.Loc S.sc z) (hf2 : S.fn z = true ∨ S.sc.names.lookup z = some .local)
    (k : K (((ρ.set i (some (.dat d1))).set j (some (.dat d2))).set l (some (.dat d3)))) : WTg S (.Tuple [.Name x p, .Name y py, .Name z pz] kt pos) [i, j, l] ρ (.tuple [d1, d2, d3]) K := by
  intro X f H0 σ G R H E v dd Qσ kq pins s u I r
  have g1 := pg_name (X := X) (pos := p) (i := i) f.nd (by rw [f.N]; exact hN) (by unfold L2.Loc; rw [f.sc]; exact hl) (hf.elim (fun z => .inl (f.fn _ z)) (fun z => .inr (by rw [f.sc]; exact z)))
  have g2 := pg_name (X := X) (pos := py) (i := j) f.nd (by rw [f.N]; exact hN') (by unfold L2.Loc; rw [f.sc]; exact hl') (hf'.elim (fun z => .inl (f.fn _ z)) (fun z => .inr (by rw [f.sc]; exact z)))
  have g3 := pg_name (X := X) (pos := pz) (i := l) f.nd (by rw [f.N]; exact hN2) (by unfold L2.Loc; rw [f.sc]; exact hl2) (hf2.elim (fun z => .inl (f.fn _ z)) (fun z => .inr (by rw [f.sc]; exact z)))
  cases dd with
  | @tup t vs _ h q =>
    obtain ⟨v1, v2, v3, rfl, q1, q2, q3⟩ := q.three
    refine (pg_tup f.calm (pgs_cons g1 (pgs_cons g2 (pgs_cons g3 pgs_nil)))).run pins s σ H _ u Qσ I r ⟨t, [v1, v2, v3], rfl, SqT.of (E.wd.gh _ _ h), rfl, v1, [v2, v3], rfl, v2, [v3], rfl, v3, [], rfl, rfl, ?_⟩
    exact kq _ _ k (((E.setD i q1).setD j q2).setD l q3) (((offS_set (by simp)).trans (offS_set (by simp))).trans (offS_set (by simp)))
def WX (S : Sta) (e : Expr) (ρ : Rho) (Q : PyData → Rho → Prop) : Prop :=
  ∀ X, Fits S X → ∀ G0 R0 H0 σ G Rr H, Stp G0 R0 H0 G Rr H → EnvR S.K H0 ρ σ G Rr H → ∀ QV : VK, (∀ d v ρ' G2 R2 H2, Q d ρ' → Stp G0 R0 H0 G2 R2 H2 → EnvR S.K H0 ρ' σ G2 R2 H2 → Dd G2 v d → QV v H2) → tU X e σ H QV
theorem DdAll.dropLast {G : Hp} : ∀ {vs : List V} {ds : List PyData}, DdAll G vs ds → DdAll G vs.dropLast ds.dropLast
  | _, _, .nil => .nil
  | _, _, .cons _ .nil => .nil
  | _, _, .cons h (.cons h2 t) => .cons h (DdAll.dropLast (.cons h2 t))
theorem w1_extend (i : Nat) {xs : List PyData} {pa pc : Pos} (hr : ρ[i]? = some (some (.own xs))) (h : WE S e ρ fun d => ∃ ys, d = .list ys ∧ xs.length + ys.length ≤ sizeLine ∧ R (.nx (ρ.set i (some (.own (xs ++ ys))))))
    (hN : S.N[i]? = some x) (hv : Vis S.sc x) (hd : (x == ("__debug__" : Str)) = false := by decide) (hcd : (x == ("__classdict__" : Str)) = false := by decide)
    (he : ∀ env, starEach [e] env = (false, eval e env) :: starEach [] env := by intro _; rfl)
    (hfew : ∀ env, ((backTo pc (starEach [e] env)).all (fun x => !x.1) && (backToKw pc (keywordEach [] env)).all (fun x => x.1.isSome)
      && decide ([e].length + ([] : List Keyword).length + (if ([] : List Keyword).isEmpty then 0 else 1) < 30)) = true := by intro _; rfl)
    (hbase : ∀ env, attributeBase (.Name x px) "extend" env (eval (.Name x px) env) = eval (.Name x px) env := by intro _; rfl) (hline : (pa.endLine == pc.line) = true := by rfl)
    (hsw : ∀ env, swapsWith (.Call (.Attribute (.Name x px) "extend" pa) [e] [] pc) none pos.line env = pure false := by intro _; rfl) :
    W1 S (.Expr (.Call (.Attribute (.Name x px) "extend" pa) [e] [] pc) pos) ρ R := by
  intro X f G0 R0 H0 σ G Rr H s0 E D ok
  refine W1.by (ps_expr (pe_bm PySem.F.plainAttrs_list PySem.F.slot_list_extend PySem.F.type_list_extend mt_extend (pe_var (i := i) (by rw [f.N]; exact hN) (by rw [f.sc]; exact hv) hd hcd) (pa_cons pe_U pa_nil (he _)) (hbase _) (hfew _) hline (he _) (by rfl)) (hsw _)) ?_
  obtain ⟨l, vs, e1, h1, h2, h3, h4, h5⟩ := own_at E hr
  refine ⟨.ref l, e1, .inl ⟨rfl, _, SqL.of h1⟩, h X f H0 σ G Rr H E _ fun d v G2 R2 H2 ⟨ys, ed, hz, q⟩ st dd => ?_⟩
  subst ed
  obtain ⟨k1, k2, k3⟩ := st.apart h1 h2 h3
  cases dd with
  | @lst b ws _ hb rb =>
    refine ⟨l, b, vs, ws, rfl, rfl, k1, st.wd.gh _ _ hb, by rw [h5.len, rb.len]; exact hz, ok.nx _ _ _ _ _ q ((s0.trans st).off h4 k2 k3) ((E.step st).chg hr e1 ((DdAll.mono st.gg _ _ h5).app rb))⟩
theorem NstAll.at {G H : Hp} : ∀ {its : List (PyData ⊕ List PyData)} {vs : List V} {fps : List Addr} {k : Nat} {xs : List PyData}, NstAll G H vs its fps → fps.Nodup → its[k]? = some (.inr xs) →
    ∃ p ws, vs[k]? = some (.ref p) ∧ p ∈ fps ∧ H p = some (.lst ws) ∧ DdAll G ws xs ∧ ∀ ys us, DdAll G us ys → NstAll G (upd H p (.lst us)) vs (its.set k (.inr ys)) fps
  | [], _, _, _, _, _, _, e => by simp at e
  | .inl d :: its, v :: vs, fps, 0, xs, h, nd, e => by simp at e
  | .inl d :: its, v :: vs, fps, k + 1, xs, h, nd, e => by
    have h : Dd G v d ∧ NstAll G H vs its fps := by cases fps <;> exact h
    obtain ⟨p, ws, e1, e2, e3, e4, e5⟩ := NstAll.at h.2 nd (k := k) (xs := xs) (by simpa using e)
    exact ⟨p, ws, by simpa using e1, e2, e3, e4, fun ys us q => .consD h.1 (e5 ys us q)⟩
  | .inr zs :: its, v :: vs, p :: fps, 0, xs, h, nd, e => by
    obtain ⟨rfl, ⟨ws, h2, h3⟩, h4⟩ := h
    have e : zs = xs := by simpa using e
    subst e
    obtain ⟨nd1, nd2⟩ := List.nodup_cons.mp nd
    refine ⟨p, ws, rfl, by simp, h2, h3, fun ys us q => ⟨rfl, ⟨us, upd_same, q⟩, NstAll.mono (Same.refl _) _ _ _ (fun a ha => upd_ne fun z => nd1 (z ▸ ha)) h4⟩⟩
  | .inr zs :: its, v :: vs, q0 :: fps, k + 1, xs, h, nd, e => by
    obtain ⟨rfl, ⟨ws, h2, h3⟩, h4⟩ := h
    obtain ⟨nd1, nd2⟩ := List.nodup_cons.mp nd
    obtain ⟨p, us, e1, e2, e3, e4, e5⟩ := NstAll.at (its := its) (vs := vs) h4 nd2 (k := k) (xs := xs) (by simpa using e)
    exact ⟨p, us, by simpa using e1, List.mem_cons_of_mem _ e2, e3, e4, fun ys us q => ⟨rfl, ⟨ws, by rw [upd_ne (show q0 ≠ p from fun z => nd1 (by rw [z]; exact e2))]; exact h2, h3⟩, e5 ys us q⟩⟩
end
end Tee
namespace Oak
open PySem PySem.Spec PyProof.Rows L2
open Tee (Dd DdAll ScrL SysAt tU tUT tUW tUS tUG tUB tUTB tUGB pe_U pt_U pw_U pss_U pg_U CmpD rCmp opr_cmp isNone Wd Od KD Stp OffS offS_set upTo upTo_len upTo_get)
def WI (S : Sta) (tg iter : Expr) (ρ : Rho) (Q : List PyData → Rho → Prop) : Prop :=
  ∀ X B, Std S X B → ∀ σ τ G H, EnvR S.K B ρ σ τ [] G H → ∃ wi, PI X tg iter wi ∧ ∀ RV : It → Hp → Prop, (∀ ds J ρ1 G1 H1, Q ds ρ1 → EnvR S.K B ρ1 σ τ [] G1 H1 → Tee.Good J ds G1 → RV J H1) → wi σ H RV
section
variable {S : Sta} {ρ : Rho} {a b c e tg iter : Expr} {es rest : List Expr} {x y z : Str} {p px py pz pos : Pos}
theorem WI.mono {Q Q' : List PyData → Rho → Prop} (h : WI S tg iter ρ Q) (k : ∀ ds ρ1, Q ds ρ1 → Q' ds ρ1) : WI S tg iter ρ Q' := fun X B st σ τ G H E => by
  obtain ⟨wi, pi, hw⟩ := h X B st σ τ G H E
  exact ⟨wi, pi, fun RV kq => hw RV fun ds J ρ1 G1 H1 q => kq ds J ρ1 G1 H1 (k _ _ q)⟩
theorem good_list {K : PySem.W.Frag} {G : Hp} {ds : List PyData} {l : Addr} {vs : List V} (h : G l = some (.lst vs)) (r : DdAll G vs ds) : Tee.Good (Itl K l) ds G := fun G' R' H' sg w i => by
  have hq := SqL.of (K := K) (w.gh _ _ (sg _ _ h))
  refine ⟨fun hi => ?_, fun hi => ⟨vs, hq, by rw [Tee.DdAll.len r]; exact hi⟩⟩
  obtain ⟨d, ed⟩ : ∃ d, ds[i]? = some d := ⟨_, List.getElem?_eq_getElem hi⟩
  obtain ⟨v, ev, dv⟩ := Tee.DdAll.get r ed
  refine ⟨⟨vs, v, hq, ev⟩, fun x H'' ⟨e1, e2⟩ => ?_⟩
  subst e1
  have ex : v = x := Option.some.inj (ev.symm.trans (e2 vs hq))
  subst ex
  exact ⟨G', d, Stp.refl w, ed, Dd.mono sg _ _ dv⟩
theorem good_tup {K : PySem.W.Frag} {G : Hp} {ds : List PyData} {l : Addr} {vs : List V} (h : G l = some (.tup vs)) (r : DdAll G vs ds) : Tee.Good (Itt K l) ds G := fun G' R' H' sg w i => by
  have hq := SqT.of (K := K) (w.gh _ _ (sg _ _ h))
  refine ⟨fun hi => ?_, fun hi => ⟨vs, hq, by rw [Tee.DdAll.len r]; exact hi⟩⟩
  obtain ⟨d, ed⟩ : ∃ d, ds[i]? = some d := ⟨_, List.getElem?_eq_getElem hi⟩
  obtain ⟨v, ev, dv⟩ := Tee.DdAll.get r ed
  refine ⟨⟨vs, v, hq, ev⟩, fun x H'' ⟨e1, e2⟩ => ?_⟩
  subst e1
  have ex : v = x := Option.some.inj (ev.symm.trans (e2 vs hq))
  subst ex
  exact ⟨G', d, Stp.refl w, ed, Dd.mono sg _ _ dv⟩
theorem wi_list {Q : List PyData → Rho → Prop} (h : WV S iter ρ fun t ρ1 => ∃ ds, toD t = some (.list ds) ∧ Q ds ρ1) : WI S tg iter ρ Q := by
  intro X B st σ τ G H E
  refine ⟨_, pi_list pe_U, fun RV k => h X B st σ τ G H E _ fun t ρ1 v G1 H1 ⟨ds, e, q⟩ E1 => ?_⟩
  obtain ⟨G2, sg, E2⟩ := E1.freeze e
  have dd := E2.dd
  cases dd with
  | @lst l vs _ hl r => exact ⟨l, rfl, ⟨vs, SqL.of (E2.sm _ _ hl)⟩, k ds _ ρ1 G2 H1 q E2.dropT (good_list hl r)⟩
theorem wi_tup {Q : List PyData → Rho → Prop} (h : WV S iter ρ fun t ρ1 => ∃ ds, toD t = some (.tuple ds) ∧ Q ds ρ1) : WI S tg iter ρ Q := by
  intro X B st σ τ G H E
  refine ⟨_, pi_tup pe_U, fun RV k => h X B st σ τ G H E _ fun t ρ1 v G1 H1 ⟨ds, e, q⟩ E1 => ?_⟩
  obtain ⟨G2, sg, E2⟩ := E1.freeze e
  have dd := E2.dd
  cases dd with
  | @tup l vs _ hl r => exact ⟨l, rfl, ⟨vs, SqT.of (E2.sm _ _ hl)⟩, k ds _ ρ1 G2 H1 q E2.dropT (good_tup hl r)⟩
theorem wi_range {Q : List PyData → Rho → Prop} (h : WO S a ρ fun o ρ1 => ∃ n : Int, o.view ρ1 = some (.int n) ∧ -(2 ^ 62) ≤ n ∧ n < 2 ^ 62 ∧ Q (upTo n.toNat) ρ1) (hm : S.mg "range" = none) (hg : S.sc.names.lookup ("range" : Str) = some .globalImplicit) (hs : ∀ env, starEach [a] env = [(false, eval a env)]) :
    WI S tg (.Call (.Name "range" p) [a] [] pos) ρ Q := by
  intro X B st σ τ G H E
  refine ⟨_, pi_range1 (by show X.env.scope.names.lookup _ = _; rw [st.fit.sc]; exact hg) (by rw [st.fit.mg]; exact hm) (pa_cons pe_U pa_nil (hs _)) (hs _), fun RV k => h X B st σ τ G H E _ fun o ρ1 v G1 H1 ⟨n, e, h1, h2, q⟩ E1 ok => ?_⟩
  have ev := (Opd.dd E1 ok e).intV
  subst ev
  refine ⟨n, rfl, h1, h2, k _ _ ρ1 G1 H1 q (Opd.drop E1) fun G' R' H' sg w i => ⟨fun hi => ?_, fun hi => ?_⟩⟩
  · rw [upTo_len] at hi
    refine ⟨hi, fun x H'' ⟨e1, e2⟩ => ?_⟩
    subst e1
    subst e2
    refine ⟨G', _, Stp.refl w, upTo_get hi, ?_⟩
    rw [Int.zero_add]
    exact .int _
  · rw [upTo_len] at hi
    exact hi
def WTg (S : Sta) (tg : Expr) (L : List Nat) (ρ : Rho) (d : PyData) (Kk : Rho → Prop) : Prop :=
  ∀ X B, Std S X B → ∀ σ τ G H, EnvR S.K B ρ σ τ [] G H → ∀ v, Dd G v d → ∀ Qσ : L2.St → Hp → Prop, (∀ ρ' σ', Kk ρ' → EnvR S.K B ρ' σ' τ [] G H → OffS L σ σ' → Qσ σ' H) → tUG X tg v σ H Qσ
abbrev Own1 (S : Sta) (i : Nat) (x : Str) : Prop := S.N[i]? = some x ∧ L2.Loc S.sc x ∧ (S.fn x = true ∨ S.sc.names.lookup x = some .local) ∧ i ∉ S.fxs
theorem pg1 {X : Cx} (f : Fits S X) {i : Nat} (h : Own1 S i x) : PG X (.Name x p) (gName i) :=
  pg_name (i := i) f.nd (by rw [f.N]; exact h.1) (by unfold L2.Loc; rw [f.sc]; exact h.2.1) (h.2.2.1.elim (fun z => .inl (f.fn _ z)) (fun z => .inr (by rw [f.sc]; exact z)))
theorem EnvR.putD {K : PySem.W.Frag} {B : Base} {σ : L2.St} {τ : List Cell} {rs : List Addr} {G H : Hp} {i : Nat} {d : PyData} {v : V} (E : EnvR K B ρ σ τ rs G H) (h : Dd G v d) (hf : ∀ w, (i, w) ∉ B.fx) : EnvR K B (ρ.set i (some (.sh d))) (σ.set i (some v)) τ rs G H := (E.addSh h).put hf
theorem Std.off {X : Cx} {B : Base} (st : Std S X B) {i : Nat} (h : i ∉ S.fxs) : ∀ w, (i, w) ∉ B.fx := fun w z => h (st.fx i w z)
theorem wtg_name (i : Nat) {d : PyData} {Kk : Rho → Prop} (h : Own1 S i x) (k : Kk (ρ.set i (some (.sh d)))) : WTg S (.Name x p) [i] ρ d Kk := by
  intro X B st σ τ G H E v dd Qσ kq pins s u I r
  refine (pg1 st.fit h).run pins s σ H v u Qσ I r ?_
  exact kq _ _ k (E.putD dd (st.off h.2.2.2)) (offS_set (by simp))
theorem wtg_pair (i j : Nat) {kt : Nat} {d d1 d2 : PyData} {Kk : Rho → Prop} (hd : d = .tuple [d1, d2] ∨ d = .list [d1, d2]) (h : Own1 S i x) (h' : Own1 S j y) (k : Kk ((ρ.set i (some (.sh d1))).set j (some (.sh d2)))) : WTg S (.Tuple [.Name x p, .Name y py] kt pos) [i, j] ρ d Kk := by
  intro X B st σ τ G H E v dd Qσ kq pins s u I r
  have fin : ∀ v1 v2, Dd G v1 d1 → Dd G v2 d2 → Qσ ((σ.set i (some v1)).set j (some v2)) H := fun v1 v2 q1 q2 =>
    kq _ _ k ((E.putD q1 (st.off h.2.2.2)).putD q2 (st.off h'.2.2.2)) ((offS_set (by simp)).trans (offS_set (by simp)))
  rcases hd with rfl | rfl
  · cases dd with
    | @tup l vs _ hh q =>
      obtain ⟨v1, v2, rfl, q1, q2⟩ := q.two
      exact (pg_tup st.fit.calm (pgs_cons (pg1 st.fit h) (pgs_cons (pg1 st.fit h') pgs_nil))).run pins s σ H _ u Qσ I r ⟨l, [v1, v2], rfl, SqT.of (E.sm _ _ hh), rfl, v1, [v2], rfl, v2, [], rfl, rfl, fin v1 v2 q1 q2⟩
  · cases dd with
    | @lst l vs _ hh q =>
      obtain ⟨v1, v2, rfl, q1, q2⟩ := q.two
      exact (pg_unl st.fit.calm (pgs_cons (pg1 st.fit h) (pgs_cons (pg1 st.fit h') pgs_nil))).run pins s σ H _ u Qσ I r ⟨l, [v1, v2], rfl, SqL.of (E.sm _ _ hh), rfl, v1, [v2], rfl, v2, [], rfl, rfl, fin v1 v2 q1 q2⟩
theorem wtg_triple (i j l : Nat) {kt : Nat} {d d1 d2 d3 : PyData} {Kk : Rho → Prop} (hd : d = .tuple [d1, d2, d3] ∨ d = .list [d1, d2, d3]) (h : Own1 S i x) (h' : Own1 S j y) (h2 : Own1 S l z) (k : Kk (((ρ.set i (some (.sh d1))).set j (some (.sh d2))).set l (some (.sh d3)))) :
    WTg S (.Tuple [.Name x p, .Name y py, .Name z pz] kt pos) [i, j, l] ρ d Kk := by
  intro X B st σ τ G H E v dd Qσ kq pins s u I r
  have fin : ∀ v1 v2 v3, Dd G v1 d1 → Dd G v2 d2 → Dd G v3 d3 → Qσ (((σ.set i (some v1)).set j (some v2)).set l (some v3)) H := fun v1 v2 v3 q1 q2 q3 =>
    kq _ _ k (((E.putD q1 (st.off h.2.2.2)).putD q2 (st.off h'.2.2.2)).putD q3 (st.off h2.2.2.2)) (((offS_set (by simp)).trans (offS_set (by simp))).trans (offS_set (by simp)))
  rcases hd with rfl | rfl
  · cases dd with
    | @tup t vs _ hh q =>
      obtain ⟨v1, v2, v3, rfl, q1, q2, q3⟩ := q.three
      exact (pg_tup st.fit.calm (pgs_cons (pg1 st.fit h) (pgs_cons (pg1 st.fit h') (pgs_cons (pg1 st.fit h2) pgs_nil)))).run pins s σ H _ u Qσ I r ⟨t, [v1, v2, v3], rfl, SqT.of (E.sm _ _ hh), rfl, v1, [v2, v3], rfl, v2, [v3], rfl, v3, [], rfl, rfl, fin v1 v2 v3 q1 q2 q3⟩
  · cases dd with
    | @lst t vs _ hh q =>
      obtain ⟨v1, v2, v3, rfl, q1, q2, q3⟩ := q.three
      exact (pg_unl st.fit.calm (pgs_cons (pg1 st.fit h) (pgs_cons (pg1 st.fit h') (pgs_cons (pg1 st.fit h2) pgs_nil)))).run pins s σ H _ u Qσ I r ⟨t, [v1, v2, v3], rfl, SqL.of (E.sm _ _ hh), rfl, v1, [v2, v3], rfl, v2, [v3], rfl, v3, [], rfl, rfl, fin v1 v2 v3 q1 q2 q3⟩
theorem EnvR.appL {K : PySem.W.Frag} {B : Base} {σ : L2.St} {τ : List Cell} {rs : List Addr} {G H : Hp} {t : T} {v w : V} {ts : List T} (E : EnvR K B ρ σ ((t, v) :: (.lst ts, w) :: τ) rs G H) :
    ∃ l vs, w = .ref l ∧ H l = some (.lst vs) ∧ ts.length = vs.length ∧ EnvR K B ρ σ ((.lst (ts ++ [t]), w) :: τ) rs G (upd H l (.lst (vs ++ [v]))) := by
  obtain ⟨l, vs, e, h1, hl, hr, E2⟩ := (E.permT (List.Perm.swap _ _ _)).openL
  subst e
  refine ⟨l, vs, rfl, h1, hl, ?_⟩
  have E3 : EnvR K B ρ σ ((ts ++ [t]).zip (vs ++ [v]) ++ τ) (l :: rs) G H := by
    rw [List.zip_append hl]
    show EnvR K B ρ σ ((ts.zip vs ++ [(t, v)]) ++ τ) (l :: rs) G H
    rw [List.append_assoc]
    exact E2
  exact (E3.write (o := .lst (vs ++ [v])) (by simp)).closeL (by rw [List.length_append, List.length_append, hl]; rfl) hr upd_same
abbrev Base.at (B : Base) (G : Hp) : Base := { B with G0 := G }
theorem EnvR.rebase {K : PySem.W.Frag} {B : Base} {σ : L2.St} {τ : List Cell} {rs : List Addr} {G H : Hp} (E : EnvR K B ρ σ τ rs G H) : EnvR K (B.at G) ρ σ τ rs G H :=
  let ⟨f, h1, h2, h3⟩ := E.own
  ⟨E.sm, E.ln, E.all, ⟨f, h1, fun a q => ⟨(h2 a q).ng, (h2 a q).ex, (h2 a q).rg⟩, h3⟩, fun a ha => ⟨(E.rs a ha).ng, (E.rs a ha).ex, (E.rs a ha).rg⟩, E.keep, E.dom, Same.refl _, fun b o e n => (by rw [show G b = none from n] at e; cases e), E.fx⟩
theorem EnvR.unbase {K : PySem.W.Frag} {B : Base} {ρ' : Rho} {σ σ' : L2.St} {τ τ' : List Cell} {rs rs' : List Addr} {G1 H1 G H : Hp} (E1 : EnvR K B ρ σ τ rs G1 H1) (E : EnvR K (B.at G1) ρ' σ' τ' rs' G H) : EnvR K B ρ' σ' τ' rs' G H :=
  let ⟨f, h1, h2, h3⟩ := E.own
  ⟨E.sm, E.ln, E.all, ⟨f, h1, fun a q => ⟨(h2 a q).ng, (h2 a q).ex, (h2 a q).rg⟩, h3⟩, fun a ha => ⟨(E.rs a ha).ng, (E.rs a ha).ex, (E.rs a ha).rg⟩, E.keep, E.dom, fun b o e => E.gg b o (E1.gg b o e), fun b o e n => by
    exact (match q : G1 b with
    | some u => E1.gnew b u q n
    | none => E.gnew b o e q), E.fx⟩
theorem Std.at {X : Cx} {B : Base} {σ : L2.St} {τ : List Cell} {rs : List Addr} {G H : Hp} (st : Std S X B) (E : EnvR S.K B ρ σ τ rs G H) : Std S X (B.at G) :=
  ⟨st.fit, st.tk.imp fun c d σ' H' ⟨fs, ρ', G', h1, h2, h3⟩ => ⟨fs, ρ', G', h1, EnvR.unbase E h2, h3⟩, st.fx⟩
def wipeR (ρ : Rho) : List Nat → Rho
  | [] => ρ
  | v :: vs => (wipeR ρ vs).set v none
theorem EnvR.wipe {K : PySem.W.Frag} {B : Base} {σ : L2.St} {τ : List Cell} {rs : List Addr} {G H : Hp} (E : EnvR K B ρ σ τ rs G H) : ∀ vs : List Nat, EnvR K B (wipeR ρ vs) σ τ rs G H
  | [] => E
  | v :: vs => (E.wipe vs).forget v
theorem wipeR_get {vs : List Nat} : ∀ {ρ : Rho} {i : Nat}, i ∈ vs → ∀ t, (wipeR ρ vs)[i]? ≠ some (some t) := by
  induction vs with
  | nil => intro ρ i h; cases h
  | cons v vs ih =>
    intro ρ i h t e
    have e : ((wipeR ρ vs).set v none)[i]? = some (some t) := e
    by_cases q : v = i
    · subst q
      have hl := (List.getElem?_eq_some_iff.mp e).1
      rw [List.length_set] at hl
      rw [List.getElem?_set_self hl] at e
      cases e
    · rw [List.getElem?_set_ne q] at e
      exact ih ((List.mem_cons.mp h).resolve_left fun z => q z.symm) t e
theorem slots_eq : ∀ {ρ : Rho} {σ σ' : L2.St}, σ.length = σ'.length → (∀ (i : Nat) (t : T), ρ[i]? = some (some t) → σ[i]? = σ'[i]?) → slots ρ σ = slots ρ σ'
  | [], _, _, _, _ => rfl
  | q :: ρ, [], [], _, _ => rfl
  | q :: ρ, [], _ :: _, h, _ => by cases h
  | q :: ρ, _ :: _, [], h, _ => by cases h
  | q :: ρ, x :: σ, y :: σ', h, k => by
    have ih := slots_eq (ρ := ρ) (σ := σ) (σ' := σ') (Nat.succ.inj h) fun i t e => k (i + 1) t e
    cases q with
    | none => exact ih
    | some t =>
      have := k 0 t rfl
      cases this
      cases x with
      | none => exact ih
      | some v => exact congrArg ((t, v) :: ·) ih
theorem EnvR.swapσ {K : PySem.W.Frag} {B : Base} {σ σ' : L2.St} {τ : List Cell} {rs : List Addr} {G H : Hp} (E : EnvR K B ρ σ τ rs G H) (hl : σ.length = σ'.length) (h : ∀ (i : Nat) (t : T), ρ[i]? = some (some t) → σ[i]? = σ'[i]?) (hf : ∀ (i : Nat) (v : V), (i, v) ∈ B.fx → σ'[i]? = some (some v)) : EnvR K B ρ σ' τ rs G H := by
  obtain ⟨f, h1, h2⟩ := E.own
  rw [slots_eq hl h] at h1
  exact ⟨E.sm, ⟨E.len.trans hl, hl.symm.trans E.ln.2⟩, fun i t e => by rw [← h i t e]; exact E.all i t e, ⟨f, h1, h2⟩, E.rs, E.keep, E.dom, E.gg, E.gnew, hf⟩
abbrev Sta.blk (S : Sta) (scope : Scope) : Sta := { S with sc := relS scope S.sc, fn := fun x => scope.names.lookup x == some .cell, E := fun _ _ _ => False }
theorem Std.blk {X : Cx} {B : Base} (st : Std S X B) (s : Shared) (H : Hp) (scope : Scope) (C : Addr) (cl : List (Str × Addr)) (fp : List Addr) : Std (S.blk scope) (X.blk s H scope (compEnvC scope cl C X.env) fp) B :=
  ⟨⟨st.fit.prog, st.fit.w, st.fit.K, st.fit.mg, st.fit.base, st.fit.N, by show relS scope X.env.scope = _; rw [st.fit.sc], fun x h => h, st.fit.calm, st.fit.gd, st.fit.room, st.fit.sys, st.fit.nd, PassesOwn.never⟩,
    fun u s' h => by
      obtain ⟨_, _, _, _, _, _, _, _, _, _, _, _, _, _, _, _, _, _, _, z, _⟩ := h
      exact z.elim, st.fx⟩
def WTs (S : Sta) (ifs : List Expr) (ρ : Rho) (Q : Bool → Rho → Prop) : Prop :=
  match ifs with
  | [] => Q true ρ
  | [t] => WT S t ρ Q
  | _ => False
def LcGo (S : Sta) (tg : Expr) (L vs : List Nat) (ifs : List Expr) (elt : Expr) (Q : List T → Rho → Prop) : List PyData → List T → Rho → Prop
  | [], acc, ρ => Q acc ρ
  | d :: ds, acc, ρ => WTg S tg L ρ d fun ρ1 => WTs S ifs ρ1 fun k ρ2 => (k = true → WV S elt ρ2 fun t ρ3 => LcGo S tg L vs ifs elt Q ds (acc ++ [t]) (wipeR ρ3 vs)) ∧ (k = false → LcGo S tg L vs ifs elt Q ds acc (wipeR ρ2 vs))
theorem lc_read {Q : List T → Rho → Prop} {scope : Scope} {ifs : List Expr} {elt : Expr} (own : List (Str × Nat)) (L : List Nat)
    (hi : WI S tg iter ρ fun ds ρ1 => ds.length ≤ 1000000 ∧ LcGo (S.blk scope) tg L (own.map (·.2)) ifs elt Q ds [] (wipeR ρ1 (own.map (·.2))))
    (hL : ∀ j ∈ L, j ∈ own.map (·.2)) (hF : ∀ j ∈ own.map (·.2), j ∉ S.fxs) (hifs : ifs.length ≤ 1) {X : Cx} {B : Base} (st : Std S X B) {σ : L2.St} {τ : List Cell} {G H : Hp} (E : EnvR S.K B ρ σ τ [] G H) :
    ∃ wi, PI X tg iter wi ∧ ∀ QV : VK, (∀ acc ρ' D G' H', Q acc ρ' → EnvR S.K B ρ' σ ((.lst acc, .ref D) :: τ) [] G' H' → QV (.ref D) H') → tLc wi (tUGB X scope tg) (tUTB X scope ifs) (tUB X scope elt) (own.map (·.2)) σ H QV := by
  obtain ⟨wi, pi, hw⟩ := hi X B st σ τ G H E
  refine ⟨wi, pi, fun QV kq => hw _ fun ds J ρ1 G1 H1 q E1 good => ?_⟩
  obtain ⟨hz, q⟩ := q
  intro D hD
  generalize hvs : own.map (·.2) = vs at *
  -- the slots of the block: σ without vs
  have wl : ∀ σ' : L2.St, (L2.wipe σ' vs).length = σ'.length := fun σ' => wipe_length _ _
  have st1 : Std S X (B.at G1) := st.at E1
  have Ew : ∀ {ρ' : Rho} {σ' : L2.St} {τ' : List Cell} {G' H' : Hp}, EnvR S.K (B.at G1) (wipeR ρ' vs) σ' τ' [] G' H' → EnvR S.K (B.at G1) (wipeR ρ' vs) (L2.wipe σ' vs) τ' [] G' H' := fun {ρ' σ' τ' G' H'} E' => E'.swapσ (wl _).symm (fun i t e => by
    have ni : i ∉ vs := fun z => wipeR_get z t e
    rw [Tee.wipe_get, if_neg fun z => ni z.1]) fun i v h => by
    have := E'.fx i v h
    rw [Tee.wipe_get, if_neg fun z => hF i z.1 (st.fx i v h)]
    exact this
  refine ⟨fun i m H' => m = ds.length - i ∧ i ≤ ds.length ∧ ∃ acc ρ' G', LcGo (S.blk scope) tg L vs ifs elt Q (ds.drop i) acc (wipeR ρ' vs) ∧ acc.length ≤ i ∧ EnvR S.K (B.at G1) (wipeR ρ' vs) (L2.wipe σ vs) ((.lst acc, .ref D) :: τ) [] G' H',
    ⟨ds.length, by omega, Nat.zero_le _, [], ρ1, G1, q, Nat.le_refl _, Ew ((EnvR.newL (ts := []) (vs := []) E1.rebase rfl hD).wipe vs)⟩, ?_⟩
  rintro i m H' ⟨rfl, hi', acc, ρ', G', hJ, hacc, E'⟩
  obtain ⟨gd1, gd2⟩ := good G' (fun _ => none) H' E'.gg ⟨E'.sm, fun _ _ e => (nomatch e), fun _ _ e => (nomatch e)⟩ i
  by_cases hlt : i < ds.length
  · obtain ⟨hgo, hy⟩ := gd1 hlt
    refine .inr ⟨hgo, fun H'' => ∃ acc ρ' G', LcGo (S.blk scope) tg L vs ifs elt Q (ds.drop (i + 1)) acc (wipeR ρ' vs) ∧ acc.length ≤ i + 1 ∧ EnvR S.K (B.at G1) (wipeR ρ' vs) (L2.wipe σ vs) ((.lst acc, .ref D) :: τ) [] G' H'',
      fun H'' hn => ⟨ds.length - (i + 1), by omega, rfl, hlt, hn⟩, fun v H'' hv => ?_⟩
    obtain ⟨G3, d, s3, ed, dv⟩ := hy v H'' hv
    have E3 := E'.stp (R := G3) s3
    have hdr : ds.drop i = d :: ds.drop (i + 1) := by
      have hl := (List.getElem?_eq_some_iff.mp ed).1
      rw [List.drop_eq_getElem_cons hl]
      rw [List.getElem?_eq_getElem hl] at ed
      rw [Option.some.inj ed]
    rw [hdr] at hJ
    intro s1 H1 C cl fp
    refine hJ _ _ (st1.blk s1 H1 scope C cl fp) _ _ G3 H'' E3 v dv _ fun ρ2 σ2 hK E4 off => ?_
    have hw2 : L2.wipe σ2 vs = L2.wipe σ vs := by rw [off.wipe hL, Tee.wipe_wipe]
    refine ⟨hw2, ?_⟩
    have back : ∀ {ρ4 : Rho} {τ' : List Cell} {G5 H5 : Hp}, EnvR S.K (B.at G1) ρ4 σ2 τ' [] G5 H5 → EnvR S.K (B.at G1) (wipeR ρ4 vs) (L2.wipe σ vs) τ' [] G5 H5 := fun {ρ4 τ' G5 H5} E5 => by
      rw [← hw2]
      exact Ew (E5.wipe vs)
    have go : ∀ (b : Bool) ρ3 G4 H4, ((b = true → WV (S.blk scope) elt ρ3 fun t ρ4 => LcGo (S.blk scope) tg L vs ifs elt Q (ds.drop (i + 1)) (acc ++ [t]) (wipeR ρ4 vs)) ∧ (b = false → LcGo (S.blk scope) tg L vs ifs elt Q (ds.drop (i + 1)) acc (wipeR ρ3 vs))) →
        EnvR S.K (B.at G1) ρ3 σ2 ((.lst acc, .ref D) :: τ) [] G4 H4 →
        if b = true then tUB X scope elt σ2 H4 fun y H5 => ∃ xs, H5 D = some (.lst xs) ∧ xs.length < sizeLine ∧
          (∃ acc ρ' G', LcGo (S.blk scope) tg L vs ifs elt Q (ds.drop (i + 1)) acc (wipeR ρ' vs) ∧ acc.length ≤ i + 1 ∧ EnvR S.K (B.at G1) (wipeR ρ' vs) (L2.wipe σ vs) ((.lst acc, .ref D) :: τ) [] G' (upd H5 D (.lst (xs ++ [y]))))
        else ∃ acc ρ' G', LcGo (S.blk scope) tg L vs ifs elt Q (ds.drop (i + 1)) acc (wipeR ρ' vs) ∧ acc.length ≤ i + 1 ∧ EnvR S.K (B.at G1) (wipeR ρ' vs) (L2.wipe σ vs) ((.lst acc, .ref D) :: τ) [] G' H4 := by
      intro b ρ3 G4 H4 hb E5
      cases b with
      | true =>
        rw [if_pos rfl]
        intro s1 H1 C cl fp
        refine (hb.1 rfl) _ _ (st1.blk s1 H1 scope C cl fp) σ2 _ G4 H4 E5 _ fun t ρ4 y G5 H5 hj E6 => ?_
        obtain ⟨l, xs, e1, h1, hl, E7⟩ := E6.appL
        cases e1
        exact ⟨xs, h1, by rw [← hl]; exact Nat.lt_of_le_of_lt (show acc.length ≤ 1000000 by omega) (by decide), acc ++ [t], ρ4, G5, hj, by rw [List.length_append]; exact Nat.succ_le_succ hacc, back E7⟩
      | false =>
        rw [if_neg (by decide)]
        exact ⟨acc, ρ3, G4, hb.2 rfl, by omega, back E5⟩
    cases ifs with
    | nil => exact go true ρ2 G3 H'' hK E4
    | cons t r =>
      cases r with
      | nil =>
        intro s1 H1 C cl fp
        exact hK _ _ (st1.blk s1 H1 scope C cl fp) σ2 _ G3 H'' E4 _ fun b ρ3 G4 H4 hb E5 => go b ρ3 G4 H4 hb E5
      | cons t2 r2 => exact absurd hifs (by simp)
  · have e : i = ds.length := by omega
    subst e
    rw [List.drop_length] at hJ
    refine .inl ⟨gd2 (Nat.le_refl _), kq _ _ _ G' _ hJ ?_⟩
    refine (E1.unbase E').swapσ (wl _) (fun i t e => ?_) fun i v h => E.fx i v h
    have ni : i ∉ vs := fun z => wipeR_get z t e
    rw [Tee.wipe_get, if_neg fun z => ni z.1]
theorem lc_pe {scope : Scope} {ifs : List Expr} {elt : Expr} {own : List (Str × Nat)} {X : Cx} (f : Fits S X) (ok : blkC S.N S.sc scope own = true) (hifs : ifs.length ≤ 1) (hs : ∀ env x, foldedSetIterable iter env x = pure x) {wi : TI} (pi : PI X tg iter wi) :
    PE X (.ListComp elt [⟨tg, iter, ifs, 0⟩] scope pos) (tLc wi (tUGB X scope tg) (tUTB X scope ifs) (tUB X scope elt) (own.map (·.2))) := Tee.lc_pe (S := S.tee) f.tee ok hifs pi hs
theorem wv_lc {Q : T → Rho → Prop} {scope : Scope} {ifs : List Expr} {elt : Expr} (own : List (Str × Nat)) (L : List Nat)
    (hi : WI S tg iter ρ fun ds ρ1 => ds.length ≤ 1000000 ∧ LcGo (S.blk scope) tg L (own.map (·.2)) ifs elt (fun acc ρ2 => Q (.lst acc) ρ2) ds [] (wipeR ρ1 (own.map (·.2))))
    (ok : blkC S.N S.sc scope own = true) (hL : ∀ j ∈ L, j ∈ own.map (·.2)) (hF : ∀ j ∈ own.map (·.2), j ∉ S.fxs) (hifs : ifs.length ≤ 1) (hs : ∀ env x, foldedSetIterable iter env x = pure x) :
    WV S (.ListComp elt [⟨tg, iter, ifs, 0⟩] scope pos) ρ Q := by
  intro X B st σ τ G H E QV kq
  obtain ⟨wi, pi, rd⟩ := lc_read own L hi hL hF hifs st E
  exact Tee.WE.by (lc_pe st.fit ok hifs hs pi) (rd QV fun acc ρ' D G' H' q E' => kq _ _ _ _ _ q E')
end
end Oak
namespace Oak
open PySem PySem.Spec PyProof.Rows L2
open Tee (Dd DdAll ScrL SysAt tU tUT tUW tUS tUG tUB tUTB tUGB pe_U pt_U pw_U pss_U pg_U CmpD rCmp opr_cmp isNone Wd Od KD Stp OffS offS_set upTo upTo_len upTo_get Gok)
abbrev Wp := List T → (T → List T → Prop) → (Value → XF → List T → Prop) → Prop
def spW (K : PySem.W.Frag) (W : Wp) : Sp := fun vs H Q E => ∃ (G : Hp) (as : List T) (fa : Addr → Prop) (Q0 : T → List T → Prop) (E0 : Value → XF → List T → Prop),
  Lent K G H (as.zip vs) fa ∧ as.length = vs.length ∧ W as Q0 E0 ∧
  (∀ t as' v G' H', Q0 t as' → as'.length = vs.length → CallEnd K G H fa ((t, v) :: as'.zip vs) G' H' → Q v H') ∧
  ∀ cls fs as' d G' H', E0 cls fs as' → as'.length = vs.length → CallEnd K G H fa (as'.zip vs) G' H' → XdAt G' H' d fs → E cls d H'
structure Has (S : Sta) (x : Str) (k : Nat) (W : Wp) : Prop where
  ex : ∃ (f : Addr) (fd : FuncData) (ps : List Str), S.mg x = some (.ref f) ∧ PySem.W.keepIn S.K (.ref f) = true ∧ Binds S.K fd ps [] ∧ Gok S.P S.w S.K S.mg S.base (L2.CX S.P S.w) k f fd ps (spW S.K W)
inductive Arg where
  | val (t : T)
  | bor (i : Nat)
def qg0 : List Arg → Rho → Option (List T × Rho)
  | [], ρ => some ([], ρ)
  | .val t :: as, ρ => (qg0 as ρ).map fun p => (t :: p.1, p.2)
  | .bor i :: as, ρ => match ρ[i]? with
    | some (some t) => (qg0 as (ρ.set i none)).map fun p => (t :: p.1, p.2)
    | _ => none
def qb0 : List Arg → List T → Rho → Rho
  | .val _ :: as, _ :: ts, ρ => qb0 as ts ρ
  | .bor i :: as, t :: ts, ρ => qb0 as ts (ρ.set i (some t))
  | _, _, ρ => ρ
def Arg.cells : List Arg → List V → List Cell
  | .val t :: as, v :: vs => (t, v) :: Arg.cells as vs
  | .bor _ :: as, _ :: vs => Arg.cells as vs
  | _, _ => []
def Arg.ok (σ : L2.St) : List Arg → List V → Prop
  | [], [] => True
  | .val _ :: as, _ :: vs => Arg.ok σ as vs
  | .bor i :: as, v :: vs => σ[i]? = some (some v) ∧ Arg.ok σ as vs
  | _, _ => False
section
variable {K : PySem.W.Frag} {B : Base} {σ : L2.St} {τ : List Cell} {rs : List Addr} {G H : Hp}
theorem gather_env : ∀ {as : List Arg} {vs : List V} {ρ ρ1 : Rho} {ts : List T} {τ : List Cell}, Arg.ok σ as vs → qg0 as ρ = some (ts, ρ1) → EnvR K B ρ σ (Arg.cells as vs ++ τ) rs G H → ts.length = vs.length ∧ EnvR K B ρ1 σ (ts.zip vs ++ τ) rs G H
  | [], [], ρ, ρ1, ts, τ, ok, e, E => by cases e; exact ⟨rfl, E⟩
  | .val t :: as, v :: vs, ρ, ρ1, ts, τ, ok, e, E => by
    have e : (qg0 as ρ).map (fun p => (t :: p.1, p.2)) = some (ts, ρ1) := e
    cases q : qg0 as ρ with
    | none => rw [q] at e; cases e
    | some p =>
      rw [q] at e
      cases e
      obtain ⟨h1, h2⟩ := gather_env (as := as) (vs := vs) (τ := (t, v) :: τ) ok q (E.permT List.perm_middle.symm)
      exact ⟨congrArg (· + 1) h1, h2.permT List.perm_middle⟩
  | .bor i :: as, v :: vs, ρ, ρ1, ts, τ, ok, e, E => by
    have e : (match ρ[i]? with
      | some (some t) => (qg0 as (ρ.set i none)).map fun p => (t :: p.1, p.2)
      | _ => none) = some (ts, ρ1) := e
    cases z : ρ[i]? with
    | none => rw [z] at e; cases e
    | some y =>
      cases y with
      | none => rw [z] at e; cases e
      | some t =>
        rw [z] at e
        have e : (qg0 as (ρ.set i none)).map (fun p => (t :: p.1, p.2)) = some (ts, ρ1) := e
        cases q : qg0 as (ρ.set i none) with
        | none => rw [q] at e; cases e
        | some p =>
          rw [q] at e
          cases e
          obtain ⟨w, hw, E2⟩ := E.take z
          have ok : σ[i]? = some (some v) ∧ Arg.ok σ as vs := ok
          rw [ok.1] at hw
          cases hw
          obtain ⟨h1, h2⟩ := gather_env (as := as) (vs := vs) (τ := (t, v) :: τ) ok.2 q (E2.permT List.perm_middle.symm)
          exact ⟨congrArg (· + 1) h1, h2.permT List.perm_middle⟩
  | [], _ :: _, _, _, _, _, ok, _, _ => ok.elim
  | .val _ :: _, [], _, _, _, _, ok, _, _ => ok.elim
  | .bor _ :: _, [], _, _, _, _, ok, _, _ => ok.elim
theorem scatter_env : ∀ {as : List Arg} {vs : List V} {ρ : Rho} {ts : List T} {τ : List Cell}, Arg.ok σ as vs → ts.length = vs.length → EnvR K B ρ σ (ts.zip vs ++ τ) rs G H → EnvR K B (qb0 as ts ρ) σ τ rs G H
  | [], [], ρ, [], τ, ok, hl, E => E
  | .val t :: as, v :: vs, ρ, u :: ts, τ, ok, hl, E => scatter_env (as := as) (vs := vs) ok (Nat.succ.inj hl) E.dropT
  | .bor i :: as, v :: vs, ρ, u :: ts, τ, ok, hl, E => scatter_env (as := as) (vs := vs) ok.2 (Nat.succ.inj hl) (EnvR.back E ok.1)
  | [], _ :: _, _, _, _, ok, _, _ => ok.elim
  | .val _ :: _, [], _, _, _, ok, _, _ => ok.elim
  | .bor _ :: _, [], _, _, _, ok, _, _ => ok.elim
  | [], [], _, _ :: _, _, _, hl, _ => by cases hl
  | .val _ :: _, _ :: _, _, [], _, _, hl, _ => by cases hl
  | .bor _ :: _, _ :: _, _, [], _, _, hl, _ => by cases hl
end
section
variable {S : Sta} {ρ : Rho} {Q : T → Rho → Prop} {a b c e : Expr} {es rest : List Expr} {x : Str} {p pos : Pos}
def WA (S : Sta) (es : List Expr) (ρ : Rho) (Q : List Arg → Rho → Prop) : Prop :=
  ∀ X B, Std S X B → ∀ σ τ G H, EnvR S.K B ρ σ τ [] G H → ∃ t, PA X es t ∧ ∀ QV : List V → Hp → Prop, (∀ as ρ' vs G' H', Q as ρ' → Arg.ok σ as vs → EnvR S.K B ρ' σ (Arg.cells as vs ++ τ) [] G' H' → QV vs H') → t σ H QV
theorem wa_nil {Q : List Arg → Rho → Prop} (q : Q [] ρ) : WA S [] ρ Q := fun X B st σ τ G H E => ⟨_, pa_nil, fun QV kq => kq [] ρ [] G H q trivial E⟩
theorem wa_val {Q : List Arg → Rho → Prop} (h : WV S e ρ fun t ρ1 => WA S es ρ1 fun as ρ2 => Q (.val t :: as) ρ2) (hs : ∀ env, starEach (e :: es) env = (false, eval e env) :: starEach es env) : WA S (e :: es) ρ Q := by
  intro X B st σ τ G H E
  refine ⟨_, pa_cons pe_U Tee.pa_U (hs _), fun QV kq => h X B st σ τ G H E _ fun t ρ1 v G1 H1 q E1 => ?_⟩
  obtain ⟨rd, pt, ht⟩ := q X B st σ _ G1 H1 E1
  exact fun pos pins s I => pt.run pos pins s σ H1 _ I (ht _ fun as ρ2 vs G2 H2 q2 ok E2 => kq (.val t :: as) ρ2 (v :: vs) G2 H2 q2 ok (E2.permT List.perm_middle))
theorem wa_bor (i : Nat) {t : T} {Q : List Arg → Rho → Prop} (hN : S.N[i]? = some x) (hv : Vis S.sc x) (hr : ρ[i]? = some (some t)) (h : WA S es ρ fun as ρ2 => Q (.bor i :: as) ρ2) (hd : (x == ("__debug__" : Str)) = false) (hcd : (x == ("__classdict__" : Str)) = false)
    (hs : ∀ env, starEach (.Name x p :: es) env = (false, eval (.Name x p) env) :: starEach es env) : WA S (.Name x p :: es) ρ Q := by
  intro X B st σ τ G H E
  obtain ⟨v, hv'⟩ := E.all i t hr
  obtain ⟨rd, pt, ht⟩ := h X B st σ τ G H E
  exact ⟨_, pa_cons (std_var st.fit hN hv hd hcd) pt (hs _), fun QV kq => ⟨v, hv', ht _ fun as ρ2 vs G2 H2 q2 ok E2 => kq (.bor i :: as) ρ2 (v :: vs) G2 H2 q2 ⟨hv', ok⟩ E2⟩⟩
theorem gok_fit {X : Cx} (f : Fits S X) {CX : CXT} {k : Nat} {g : Addr} {fd : FuncData} {ps : List Str} {sp : Sp} (F : Gok S.P S.w S.K S.mg S.base CX k g fd ps sp) : Gok X.prog X.w X.K X.mg X.base CX k g fd ps sp := by
  rw [f.prog, f.w, f.K, f.mg, f.base]
  exact F
theorem pe_callX {X : Cx} {k : Nat} {f : Addr} {fd : FuncData} {ps : List Str} {sp : Sp} {E : L2.St → XK} {t : TA} (hg : X.A.guards = some []) (F : Gok X.prog X.w X.K X.mg X.base (L2.CX X.prog X.w) k f fd ps sp) (hr : Room k X.A) (gl : Gl X x) (hm : X.mg x = some (.ref f))
    (hk : PySem.W.keepIn X.K (.ref f) = true) (hb : Binds X.K fd ps []) (hx : ∀ σ, PassesAt (L2.CX X.prog X.w) X σ (E σ)) (ha : PA X (e :: es) t)
    (hdb : (x == ("__debug__" : Str)) = false) (he : starEach (e :: es) X.env = (false, eval e X.env) :: starEach es X.env)
    (hpl : (backTo pos (starEach es X.env)).any (·.1) = false) : PE X (.Call (.Name x p) (e :: es) [] pos) (tCallS sp E t) := by
  refine ⟨fun pins s σ H Q I h => wpAny_Call_Name_kw (ld_glob I gl hm ?_ hdb)⟩
  refine PySem.W.callWith_K (h₀ := X.base) I.ok.mod.kin hk (thn (ha.run pos pins s σ H _ I h) fun us s1 ⟨vs, H1, I1, r, q⟩ => ⟨I1.kIn, ?_⟩) he hpl
  have hl : us.length = ps.length := r.length ▸ F.len _ _ _ _ q
  have b := hb s1 us I1.kIn (by rw [List.append_nil]; exact hl)
  rw [List.append_nil] at b
  refine wpAny_call (codeAny_mono (F.go X.A X.stack s1 H1 ⟨us, []⟩ us vs Q (E σ) hg hr I1.env0 b r q) fun res s' hq => ?_)
  cases res with
  | error e => exact hx σ pins H1 s1 e s' I1 hq
  | ok fl =>
    cases fl with
    | ret u => exact I1.after hq
    | next => exact hq.elim
    | brk => exact hq.elim
    | cont => exact hq.elim
theorem wv_call {k : Nat} {W : Wp} (F : Has S x k W) (hk : k ≤ S.k) (h : WA S (e :: es) ρ fun as ρ1 => ∃ ts ρ2, qg0 as ρ1 = some (ts, ρ2) ∧ W ts (fun t ts' => Q t (qb0 as ts' ρ2)) fun cls fs ts' => S.E cls fs (qb0 as ts' ρ2))
    (hg : S.sc.names.lookup x = some .globalImplicit) (hdb : (x == ("__debug__" : Str)) = false) (he : ∀ env, starEach (e :: es) env = (false, eval e env) :: starEach es env)
    (hpl : ∀ env, (backTo pos (starEach es env)).any (·.1) = false) : WV S (.Call (.Name x p) (e :: es) [] pos) ρ Q := by
  intro X B st σ τ G H E QV kq
  obtain ⟨g, fd, ps, hm, kp, hb, ok⟩ := F.ex
  obtain ⟨t, pt, ht⟩ := h X B st σ τ G H E
  have gk := gok_fit st.fit ok
  rw [← st.fit.prog, ← st.fit.w] at gk
  refine Tee.WE.by (pe_callX (E := L2.WE (wxOf S B)) st.fit.gd gk (st.fit.room.mono hk) (by show X.env.scope.names.lookup x = _; rw [st.fit.sc]; exact hg) (by rw [st.fit.mg]; exact hm) (by rw [st.fit.K]; exact kp) (by rw [st.fit.K]; exact hb) (passAt st.tk) pt hdb (he _) (hpl _)) ?_
  refine ht _ fun as ρ1 vs G1 H1 q okA E1 => ?_
  obtain ⟨ts, ρ2, e1, hW⟩ := q
  obtain ⟨hl, E2⟩ := gather_env okA e1 E1
  obtain ⟨fa, ln, back⟩ := E2.call
  refine ⟨G1, ts, fa, _, _, ln, hl, hW, fun t ts' v G' H' q0 hl' ce => ?_, fun cls fs ts' d G' H' q0 hl' ce xd => ?_⟩
  · have E3 : EnvR S.K B ρ2 σ (ts'.zip vs ++ ((t, v) :: τ)) [] G' H' := (back G' H' _ ce).permT List.perm_middle.symm
    exact kq _ _ _ _ _ q0 (scatter_env okA hl' E3)
  · have E3 : EnvR S.K B ρ2 σ (ts'.zip vs ++ τ) [] G' H' := back G' H' _ ce
    have E4 := scatter_env okA hl' E3
    have E5 : EnvR S.K B (qb0 as ts' ρ2) σ [] [] G' H' := EnvR.dropAll (cs := τ) (by rw [List.append_nil]; exact E4)
    exact ⟨fs, _, G', q0, E5, xd⟩
end
end Oak
namespace Tee
open PySem PySem.Spec PyProof.Rows L2
section
variable {S : Sta} {ρ : Rho} {R : Out → Prop} {x y : Str} {p px py pos : Pos}
end
end Tee
namespace Tee
open PySem PySem.Spec PyProof.Rows L2
def valD (kvs : List (Key × PyData)) (k : Key) : Option PyData := (kvs.find? fun kv => decide (kv.1 = k)).map (·.2)
def putD (kvs : List (Key × PyData)) (k : Key) (d : PyData) : List (Key × PyData) :=
  if (kvs.any fun kv => decide (kv.1 = k)) = true then kvs.map (fun kv => if kv.1 = k then (kv.1, d) else kv) else kvs ++ [(k, d)]
def keyD : Key → PyData
  | .inl i => .int i
  | .inr x => .str x
theorem Dd.key {G : Hp} {v : V} {k : Key} (h : Dd G v (keyD k)) : v = kV k := by
  cases k with
  | inl i => cases h; rfl
  | inr x => cases h; rfl
def KvAll (G : Hp) (es : List (Key × V)) (kvs : List (Key × PyData)) : Prop := es.map (·.1) = kvs.map (·.1) ∧ DdAll G (es.map (·.2)) (kvs.map (·.2))
theorem KvAll.nil {G : Hp} : KvAll G [] [] := ⟨rfl, .nil⟩
theorem KvAll.cons {G : Hp} {k : Key} {v : V} {d : PyData} {es : List (Key × V)} {kvs : List (Key × PyData)} (h : Dd G v d) (t : KvAll G es kvs) : KvAll G ((k, v) :: es) ((k, d) :: kvs) := ⟨by rw [List.map_cons, List.map_cons, t.1], .cons h t.2⟩
theorem KvAll.inv {G : Hp} {p : Key × V} {q : Key × PyData} {es : List (Key × V)} {kvs : List (Key × PyData)} (h : KvAll G (p :: es) (q :: kvs)) : p.1 = q.1 ∧ Dd G p.2 q.2 ∧ KvAll G es kvs := by
  obtain ⟨h1, h2⟩ := h
  rw [List.map_cons, List.map_cons] at h1 h2
  injection h1 with h1 h3
  cases h2 with
  | cons h4 h5 => exact ⟨h1, h4, h3, h5⟩
theorem KvAll.len {G : Hp} {es : List (Key × V)} {kvs : List (Key × PyData)} (h : KvAll G es kvs) : es.length = kvs.length := by
  have := congrArg List.length h.1
  rwa [List.length_map, List.length_map] at this
theorem KvAll.mono {G G' : Hp} (sm : Same G G') {es : List (Key × V)} {kvs : List (Key × PyData)} (h : KvAll G es kvs) : KvAll G' es kvs := ⟨h.1, DdAll.mono sm _ _ h.2⟩
theorem KvAll.rel {G : Hp} : ∀ {es : List (Key × V)} {kvs : List (Key × PyData)} (k : Key), KvAll G es kvs → (valV es k = none ∧ valD kvs k = none) ∨ ∃ v d, valV es k = some v ∧ valD kvs k = some d ∧ Dd G v d
  | [], [], k, _ => .inl ⟨rfl, rfl⟩
  | [], _ :: _, _, h => by have := h.len; simp at this
  | _ :: _, [], _, h => by have := h.len; simp at this
  | p :: es, q :: kvs, k, h => by
    obtain ⟨h1, h2, h3⟩ := h.inv
    by_cases e : p.1 = k
    · refine .inr ⟨p.2, q.2, by simp [valV, List.find?_cons, e], by simp [valD, List.find?_cons, ← h1, e], h2⟩
    · have r := KvAll.rel k h3
      have e1 : valV (p :: es) k = valV es k := by simp [valV, List.find?_cons, e]
      have e2 : valD (q :: kvs) k = valD kvs k := by simp [valD, List.find?_cons, ← h1, e]
      rw [e1, e2]
      exact r
theorem KvAll.any {G : Hp} : ∀ {es : List (Key × V)} {kvs : List (Key × PyData)} (k : Key), KvAll G es kvs → (es.any fun kv => decide (kv.1 = k)) = (kvs.any fun kv => decide (kv.1 = k))
  | [], [], k, _ => rfl
  | [], _ :: _, _, h => by have := h.len; simp at this
  | _ :: _, [], _, h => by have := h.len; simp at this
  | p :: es, q :: kvs, k, h => by
    obtain ⟨h1, _, h3⟩ := h.inv
    rw [List.any_cons, List.any_cons, KvAll.any k h3, h1]
theorem KvAll.map {G : Hp} {v : V} {d : PyData} (hd : Dd G v d) (k : Key) : ∀ {es : List (Key × V)} {kvs : List (Key × PyData)}, KvAll G es kvs → KvAll G (es.map fun kv => if kv.1 = k then (kv.1, v) else kv) (kvs.map fun kv => if kv.1 = k then (kv.1, d) else kv)
  | [], [], _ => .nil
  | [], _ :: _, h => by have := h.len; simp at this
  | _ :: _, [], h => by have := h.len; simp at this
  | p :: es, q :: kvs, h => by
    obtain ⟨h1, h2, h3⟩ := h.inv
    obtain ⟨pk, pv⟩ := p
    obtain ⟨qk, qd⟩ := q
    have h1 : pk = qk := h1
    subst h1
    rw [List.map_cons, List.map_cons]
    by_cases e : pk = k
    · simp only [e, if_true]
      exact .cons hd (KvAll.map hd k h3)
    · simp only [e, if_false]
      exact .cons h2 (KvAll.map hd k h3)
theorem KvAll.app {G : Hp} : ∀ {es es2 : List (Key × V)} {kvs kvs2 : List (Key × PyData)}, KvAll G es kvs → KvAll G es2 kvs2 → KvAll G (es ++ es2) (kvs ++ kvs2) := fun h q =>
  ⟨by rw [List.map_append, List.map_append, h.1, q.1], by rw [List.map_append, List.map_append]; exact h.2.app q.2⟩
theorem KvAll.put {G : Hp} {v : V} {d : PyData} (hd : Dd G v d) (k : Key) {es : List (Key × V)} {kvs : List (Key × PyData)} (h : KvAll G es kvs) : KvAll G (putK es k v) (putD kvs k d) := by
  unfold putK putD
  rw [h.any k]
  split
  · exact h.map hd k
  · exact h.app (.cons hd .nil)
section
variable {S : Sta} {ρ : Rho} {R : Out → Prop} {a b e : Expr} {x : Str} {p px pos : Pos}
theorem units1 {X : Cx} (f : Fits S X) : X.A.units + 1 < cLine := Nat.lt_of_le_of_lt (by omega) f.room.units
end
end Tee
namespace Tee
open PySem PySem.Spec PyProof.Rows L2
section
variable {S : Sta} {ρ : Rho} {R : Out → Prop} {a b e : Expr} {es : List Expr} {x y : Str} {p px py pos : Pos}
end
end Tee
namespace Oak
open PySem PySem.Spec PyProof.Rows L2
open Tee (Dd DdAll ScrL SysAt tU tUT tUW tUS tU1 tUG tUB tUTB tUGB pe_U pt_U pw_U pss_U ps_U pg_U CmpD rCmp opr_cmp isNone Wd Od KD Stp OffS offS_set upTo upTo_len upTo_get Gok)
inductive Out where
  | nx (ρ : Rho) | rt (t : T) (ρ : Rho) | bk (ρ : Rho) | ct (ρ : Rho)
structure EndsOk (S : Sta) (B : Base) (τ : List Cell) (R : Out → Prop) (D : Ends) : Prop where
  nx : ∀ ρ σ G H, R (.nx ρ) → EnvR S.K B ρ σ τ [] G H → D.nx σ H
  rt : ∀ t ρ v σ G H, R (.rt t ρ) → EnvR S.K B ρ σ ((t, v) :: τ) [] G H → D.rt v H
  bk : ∀ ρ σ G H, R (.bk ρ) → EnvR S.K B ρ σ τ [] G H → D.bk σ H
  ct : ∀ ρ σ G H, R (.ct ρ) → EnvR S.K B ρ σ τ [] G H → D.ct σ H
def WS (S : Sta) (sts : List Stmt) (ρ : Rho) (R : Out → Prop) : Prop :=
  ∀ X B, Std S X B → ∀ σ τ G H, EnvR S.K B ρ σ τ [] G H → ∀ D : Ends, EndsOk S B τ R D → tUS X sts D σ H
def W1 (S : Sta) (st : Stmt) (ρ : Rho) (R : Out → Prop) : Prop :=
  ∀ X B, Std S X B → ∀ σ τ G H, EnvR S.K B ρ σ τ [] G H → ∀ D : Ends, EndsOk S B τ R D → tU1 X st D σ H
def thenR (S : Sta) (rest : List Stmt) (R : Out → Prop) : Out → Prop
  | .nx ρ => WS S rest ρ R
  | .rt t ρ => R (.rt t ρ)
  | .bk ρ => R (.bk ρ)
  | .ct ρ => R (.ct ρ)
section
variable {S : Sta} {ρ : Rho} {R : Out → Prop} {a b c e iter tg : Expr} {es : List Expr} {sts rest body orelse : List Stmt} {st : Stmt} {x y z : Str} {p px py pz pos : Pos}
theorem EndsOk.mono {B : Base} {τ : List Cell} {R R' : Out → Prop} {D : Ends} (ok : EndsOk S B τ R D) (h : ∀ o, R' o → R o) : EndsOk S B τ R' D :=
  ⟨fun ρ σ G H r => ok.nx ρ σ G H (h _ r), fun t ρ v σ G H r => ok.rt t ρ v σ G H (h _ r), fun ρ σ G H r => ok.bk ρ σ G H (h _ r), fun ρ σ G H r => ok.ct ρ σ G H (h _ r)⟩
theorem W1.mono {R' : Out → Prop} (h : W1 S st ρ R) (k : ∀ o, R o → R' o) : W1 S st ρ R' := fun X B sd σ τ G H E D ok => h X B sd σ τ G H E D (ok.mono k)
theorem WS.mono {R' : Out → Prop} (h : WS S sts ρ R) (k : ∀ o, R o → R' o) : WS S sts ρ R' := fun X B sd σ τ G H E D ok => h X B sd σ τ G H E D (ok.mono k)
theorem ws_nil (r : R (.nx ρ)) : WS S [] ρ R := fun X B sd σ τ G H E D ok pins s I => pss_nil.run pins s σ H D I (ok.nx _ _ _ _ r E)
theorem ws_cons (h : W1 S st ρ (thenR S rest R)) : WS S (st :: rest) ρ R := by
  intro X B sd σ τ G H E D ok pins s I
  exact (pss_cons ps_U pss_U).run pins s σ H D I (h X B sd σ τ G H E _ ⟨fun ρ' σ' G' H' r E' => r X B sd σ' τ G' H' E' D ok, ok.rt, ok.bk, ok.ct⟩)
def midR (M : Rho → Prop) (R : Out → Prop) : Out → Prop
  | .nx ρ => M ρ
  | .rt t ρ => R (.rt t ρ)
  | .bk ρ => R (.bk ρ)
  | .ct ρ => R (.ct ρ)
theorem w1_set (i : Nat) (h : WV S e ρ fun t ρ1 => R (.nx (ρ1.set i (some t)))) (o : Own1 S i x) (hs : ∀ env : Env, env.scope = S.sc → swapsWith e (some (.Name x p)) pos.line env = pure false) : W1 S (.Assign [.Name x p] e pos) ρ R := by
  intro X B sd σ τ G H E D ok
  refine Tee.W1.by (ps_set (i := i) sd.fit.nd (by rw [sd.fit.N]; exact o.1) (by unfold L2.Loc; rw [sd.fit.sc]; exact o.2.1) pe_U (hs _ sd.fit.sc) (o.2.2.1.elim (fun z => .inl (sd.fit.fn _ z)) (fun z => .inr (by rw [sd.fit.sc]; exact z)))) ?_
  exact h X B sd σ τ G H E _ fun t ρ1 v G1 H1 q E1 => ok.nx _ _ _ _ q (E1.put (sd.off o.2.2.2))
theorem w1_setLc (i : Nat) {scope : Scope} {ifs : List Expr} {elt : Expr} (own : List (Str × Nat)) (L : List Nat)
    (hi : WI S tg iter ρ fun ds ρ1 => ds.length ≤ 1000000 ∧ LcGo (S.blk scope) tg L (own.map (·.2)) ifs elt (fun acc ρ2 => R (.nx (ρ2.set i (some (.lst acc))))) ds [] (wipeR ρ1 (own.map (·.2))))
    (o : Own1 S i x) (hk : S.sc.kind = .function) (hln : (px.line == p.line) = true) (hl : S.sc.names.lookup x = some .local) (hany : (scope.names.any fun (n, k) => n == x && (k == .local || k == .cell)) = false)
    (ok : blkC S.N S.sc scope own = true) (hL : ∀ j ∈ L, j ∈ own.map (·.2)) (hF : ∀ j ∈ own.map (·.2), j ∉ S.fxs) (hifs : ifs.length ≤ 1) (hs : ∀ env x, foldedSetIterable iter env x = pure x) :
    W1 S (.Assign [.Name x px] (.ListComp elt [⟨tg, iter, ifs, 0⟩] scope p) pos) ρ R := by
  intro X B sd σ τ G H E D okD
  obtain ⟨wi, pi, rd⟩ := lc_read own L hi hL hF hifs sd E
  have f := sd.fit
  have ps : PS X (.Assign [.Name x px] (.ListComp elt [⟨tg, iter, ifs, 0⟩] scope p) pos) (tAsg (tLc wi (tUGB X scope tg) (tUTB X scope ifs) (tUB X scope elt) (own.map (·.2))) (gName i)) := by
    refine ps_setLc f.calm f.nd (by rw [f.N]; exact o.1) (by rw [f.sc]; exact hl) (sw_true (by rw [f.sc]; exact hk) (by rw [f.sc]; exact hl) hln hany) pi (blkOk_by (by rw [f.N, f.sc]; exact ok)) (fun s H C cl fp => ⟨fun pins s' σ H v u Q I r h => h s _ C cl fp pins s' u I r⟩) (fun s H C cl fp => ?_) (fun s H C cl fp => ⟨fun pins s' σ H Q I h => h s _ C cl fp pins s' I⟩) (hs _)
    cases ifs with
    | nil => exact pts_nil
    | cons t r =>
      cases r with
      | nil => exact pts_one ⟨fun pins s' σ H Q I h => h s _ C cl fp pins s' I⟩
      | cons t2 r2 => exact absurd hifs (by simp)
  refine Tee.W1.by ps (rd _ fun acc ρ' D' G' H' q E' => ?_)
  exact okD.nx _ _ _ _ q (E'.put (sd.off o.2.2.2))
theorem w1_par (i j : Nat) {kt k2 : Nat} {pt pt2 : Pos} (h : WV S a ρ fun t ρ1 => WV S b ρ1 fun u ρ2 => R (.nx ((ρ2.set j (some u)).set i (some t)))) (o : Own1 S i x) (o' : Own1 S j y) (hij : i ≠ j)
    (hl : S.sc.names.lookup x = some .local) (hl' : S.sc.names.lookup y = some .local)
    (hw : ∀ env : Env, env.scope = S.sc → swappedStores [.Tuple [.Name x px, .Name y py] kt pt] (.Tuple [a, b] k2 pt2) env = pure (some [x, y]))
    (hs : ∀ env, swapsWithSole [.Tuple [.Name x px, .Name y py] kt pt] (.Tuple [a, b] k2 pt2) pos.line env = pure false) (he : NoStar [a, b]) :
    W1 S (.Assign [.Tuple [.Name x px, .Name y py] kt pt] (.Tuple [a, b] k2 pt2) pos) ρ R := by
  intro X B sd σ τ G H E D ok
  have f := sd.fit
  refine Tee.W1.by (ps_par (i := i) (j := j) f.calm f.nd (by rw [f.N]; exact o.1) (by rw [f.N]; exact o'.1) hij (by rw [f.sc]; exact hl) (by rw [f.sc]; exact hl') (pa_cons pe_U (pa_cons pe_U pa_nil (he.2.1 _)) (he.1 _)) (hw _ f.sc) (hs _)) ?_
  refine h X B sd σ τ G H E _ fun t ρ1 v G1 H1 hb E1 => hb X B sd σ _ G1 H1 E1 _ fun u ρ2 w G2 H2 q E2 => ⟨v, w, rfl, ?_⟩
  refine ok.nx _ _ G2 _ q ?_
  have E3 := (E2.put (i := j) (sd.off o'.2.2.2)).put (i := i) (sd.off o.2.2.2)
  have e : (σ.set i (some v)).set j (some w) = (σ.set j (some w)).set i (some v) := List.set_comm _ _ hij
  rw [e]
  exact E3
theorem w1_parC (i j : Nat) {kt k2 : Nat} {pt pt2 : Pos} (h : WV S a ρ fun t ρ1 => WV S b ρ1 fun u ρ2 => R (.nx ((ρ2.set j (some u)).set i (some t)))) (o : Own1 S i x) (o' : Own1 S j y) (hij : i ≠ j)
    (hw : ∀ env : Env, env.scope = S.sc → swappedStores [.Tuple [.Name x px, .Name y py] kt pt] (.Tuple [a, b] k2 pt2) env = pure none)
    (hs : ∀ env, swapsWithSole [.Tuple [.Name x px, .Name y py] kt pt] (.Tuple [a, b] k2 pt2) pos.line env = pure false) (he : NoStar [a, b])
    (h1 : ∀ env, (assignEach [.Tuple [.Name x px, .Name y py] kt pt] env).map (·.2) = [assign (.Tuple [.Name x px, .Name y py] kt pt) env]) :
    W1 S (.Assign [.Tuple [.Name x px, .Name y py] kt pt] (.Tuple [a, b] k2 pt2) pos) ρ R := by
  intro X B sd σ τ G H E D ok
  have f := sd.fit
  refine Tee.W1.by (ps_asg (pe_tup (pa_cons pe_U (pa_cons pe_U pa_nil (he.2.1 _)) (he.1 _))) (pg_tup f.calm (pgs_cons (pg1 f o) (pgs_cons (pg1 f o') pgs_nil))) (hs _) (hw _ f.sc) (h1 _)) ?_
  refine h X B sd σ τ G H E _ fun t ρ1 v G1 H1 hb E1 => hb X B sd σ _ G1 H1 E1 _ fun u ρ2 w G2 H2 q E2 => ?_
  refine ⟨by show 2 ≤ sizeLine; decide, fun tp htp => ?_⟩
  have E3 : EnvR S.K B ρ2 σ ((u, w) :: (t, v) :: τ) [] G2 (upd H2 tp (.tup [v, w])) := E2.grow fun b o e => by rw [upd_ne (ne_of_none e htp)]; exact e
  have e : (σ.set i (some v)).set j (some w) = (σ.set j (some w)).set i (some v) := List.set_comm _ _ hij
  refine ⟨tp, [v, w], rfl, SqT.of upd_same, rfl, v, [w], rfl, w, [], rfl, rfl, ok.nx _ _ G2 _ q ?_⟩
  rw [e]
  exact (E3.put (i := j) (sd.off o'.2.2.2)).put (i := i) (sd.off o.2.2.2)
theorem w1_unpack (i j : Nat) {kt : Nat} {pt : Pos} (h : WV S e ρ fun t ρ1 => ∃ d1 d2, (toD t = some (.tuple [d1, d2]) ∨ toD t = some (.list [d1, d2])) ∧ R (.nx ((ρ1.set i (some (.sh d1))).set j (some (.sh d2))))) (o : Own1 S i x) (o' : Own1 S j y)
    (hw : ∀ env : Env, env.scope = S.sc → swappedStores [.Tuple [.Name x px, .Name y py] kt pt] e env = pure none)
    (hs : ∀ env, swapsWithSole [.Tuple [.Name x px, .Name y py] kt pt] e pos.line env = pure false)
    (h1 : ∀ env, (assignEach [.Tuple [.Name x px, .Name y py] kt pt] env).map (·.2) = [assign (.Tuple [.Name x px, .Name y py] kt pt) env]) :
    W1 S (.Assign [.Tuple [.Name x px, .Name y py] kt pt] e pos) ρ R := by
  intro X B sd σ τ G H E D ok
  have f := sd.fit
  refine Tee.W1.by (ps_asg pe_U (pg_U (tg := .Tuple [.Name x px, .Name y py] kt pt)) (hs _) (hw _ f.sc) (h1 _)) ?_
  refine h X B sd σ τ G H E _ fun t ρ1 v G1 H1 q E1 => ?_
  obtain ⟨d1, d2, ht, r⟩ := q
  have fin : ∀ d, toD t = some d → (d = .tuple [d1, d2] ∨ d = .list [d1, d2]) → tUG X (.Tuple [.Name x px, .Name y py] kt pt) v σ H1 D.nx := fun d hd hor => by
    obtain ⟨G2, sg, E2⟩ := E1.freeze hd
    exact wtg_pair (Kk := fun ρ' => R (.nx ρ')) i j hor o o' r X B sd σ τ G2 H1 E2.dropT v E2.dd _ fun ρ' σ' q E' _ => ok.nx _ _ _ _ q E'
  exact ht.elim (fun z => fin _ z (.inl rfl)) (fun z => fin _ z (.inr rfl))
theorem w1_unpack3 (i j l : Nat) {kt : Nat} {pt : Pos} (h : WV S e ρ fun t ρ1 => ∃ d1 d2 d3, (toD t = some (.tuple [d1, d2, d3]) ∨ toD t = some (.list [d1, d2, d3])) ∧ R (.nx (((ρ1.set i (some (.sh d1))).set j (some (.sh d2))).set l (some (.sh d3))))) (o : Own1 S i x) (o' : Own1 S j y) (o2 : Own1 S l z)
    (hw : ∀ env : Env, env.scope = S.sc → swappedStores [.Tuple [.Name x px, .Name y py, .Name z pz] kt pt] e env = pure none)
    (hs : ∀ env, swapsWithSole [.Tuple [.Name x px, .Name y py, .Name z pz] kt pt] e pos.line env = pure false)
    (h1 : ∀ env, (assignEach [.Tuple [.Name x px, .Name y py, .Name z pz] kt pt] env).map (·.2) = [assign (.Tuple [.Name x px, .Name y py, .Name z pz] kt pt) env]) :
    W1 S (.Assign [.Tuple [.Name x px, .Name y py, .Name z pz] kt pt] e pos) ρ R := by
  intro X B sd σ τ G H E D ok
  have f := sd.fit
  refine Tee.W1.by (ps_asg pe_U (pg_U (tg := .Tuple [.Name x px, .Name y py, .Name z pz] kt pt)) (hs _) (hw _ f.sc) (h1 _)) ?_
  refine h X B sd σ τ G H E _ fun t ρ1 v G1 H1 q E1 => ?_
  obtain ⟨d1, d2, d3, ht, r⟩ := q
  have fin : ∀ d, toD t = some d → (d = .tuple [d1, d2, d3] ∨ d = .list [d1, d2, d3]) → tUG X (.Tuple [.Name x px, .Name y py, .Name z pz] kt pt) v σ H1 D.nx := fun d hd hor => by
    obtain ⟨G2, sg, E2⟩ := E1.freeze hd
    exact wtg_triple (Kk := fun ρ' => R (.nx ρ')) i j l hor o o' o2 r X B sd σ τ G2 H1 E2.dropT v E2.dd _ fun ρ' σ' q E' _ => ok.nx _ _ _ _ q E'
  exact ht.elim (fun z => fin _ z (.inl rfl)) (fun z => fin _ z (.inr rfl))
theorem w1_append (i : Nat) {pa pc : Pos} (h : WV S e ρ fun t ρ1 => ∃ ts, ρ1[i]? = some (some (.lst ts)) ∧ ts.length < sizeLine ∧ R (.nx (ρ1.set i (some (.lst (ts ++ [t])))))) {t0 : T} (h0 : ρ[i]? = some (some t0)) (hl0 : ∃ ts, t0 = .lst ts)
    (hN : S.N[i]? = some x) (hv : Vis S.sc x) (hd : (x == ("__debug__" : Str)) = false) (hcd : (x == ("__classdict__" : Str)) = false) (he : NoStar [e])
    (hfew : ∀ env, ((backTo pc (starEach [e] env)).all (fun x => !x.1) && (backToKw pc (keywordEach [] env)).all (fun x => x.1.isSome)
      && decide ([e].length + ([] : List Keyword).length + (if ([] : List Keyword).isEmpty then 0 else 1) < 30)) = true)
    (hbase : ∀ env, attributeBase (.Name x px) "append" env (eval (.Name x px) env) = eval (.Name x px) env) (hline : (pa.endLine == pc.line) = true)
    (hsw : ∀ env, swapsWith (.Call (.Attribute (.Name x px) "append" pa) [e] [] pc) none pos.line env = pure false) :
    W1 S (.Expr (.Call (.Attribute (.Name x px) "append" pa) [e] [] pc) pos) ρ R := by
  intro X B sd σ τ G H E D ok
  have f := sd.fit
  refine Tee.W1.by (ps_expr (pe_bm PySem.F.plainAttrs_list PySem.F.slot_list_append PySem.F.type_list_append mt_append (std_var f hN hv hd hcd) (pa_cons pe_U pa_nil (he.1 _)) (hbase _) (hfew _) hline (he.1 _) (by rfl)) (hsw _)) ?_
  obtain ⟨ts0, rfl⟩ := hl0
  obtain ⟨v0, hs0, E0⟩ := E.take h0
  obtain ⟨l0, vs0, rfl, hh0, _⟩ := E0.openL
  refine ⟨.ref l0, hs0, .inl ⟨rfl, _, SqL.of hh0⟩, h X B sd σ τ G H E _ fun t ρ1 v G1 H1 q E1 => ?_⟩
  obtain ⟨ts, hr, hz, r⟩ := q
  obtain ⟨v1, hs1, E2⟩ := E1.take hr
  rw [hs0] at hs1
  cases hs1
  obtain ⟨l, vs, e1, h1, hl, E3⟩ := (E2.permT (List.Perm.swap _ _ _)).appL
  cases e1
  have E4 := EnvR.back E3 hs0
  rw [List.set_set] at E4
  exact ⟨l0, vs, v, rfl, rfl, h1, by rw [← hl]; exact hz, ok.nx _ _ _ _ r E4⟩
theorem zip_set {α β : Type} : ∀ {xs : List α} {ys : List β} {i : Nat} {x : α} {y : β}, xs.length = ys.length → (xs.set i x).zip (ys.set i y) = (xs.zip ys).set i (x, y)
  | [], [], _, _, _, _ => by simp
  | a :: xs, b :: ys, 0, x, y, h => rfl
  | a :: xs, b :: ys, i + 1, x, y, h => by
    show (a, b) :: (xs.set i x).zip (ys.set i y) = (a, b) :: (xs.zip ys).set i (x, y)
    rw [zip_set (Nat.succ.inj h)]
  | [], _ :: _, _, _, _, h => by cases h
  | _ :: _, [], _, _, _, h => by cases h
theorem perm_set {α : Type} : ∀ {xs : List α} {i : Nat} {x : α}, i < xs.length → ∃ y, (x :: xs).Perm (y :: xs.set i x)
  | [], _, _, h => by cases h
  | a :: xs, 0, x, _ => ⟨a, List.Perm.swap _ _ _⟩
  | a :: xs, i + 1, x, h => by
    obtain ⟨y, hp⟩ := perm_set (xs := xs) (i := i) (x := x) (Nat.lt_of_succ_lt_succ h)
    exact ⟨y, (List.Perm.swap _ _ _).trans ((hp.cons a).trans (List.Perm.swap _ _ _))⟩
theorem EnvR.setL {K : PySem.W.Frag} {B : Base} {σ : L2.St} {τ : List Cell} {rs : List Addr} {G H : Hp} {t : T} {v w : V} {ts : List T} {j : Nat} (E : EnvR K B ρ σ ((t, v) :: (.lst ts, w) :: τ) rs G H) (hj : j < ts.length) :
    ∃ l vs, w = .ref l ∧ H l = some (.lst vs) ∧ ts.length = vs.length ∧ EnvR K B ρ σ ((.lst (ts.set j t), w) :: τ) rs G (upd H l (.lst (vs.set j v))) := by
  obtain ⟨l, vs, e, h1, hl, hr, E2⟩ := (E.permT (List.Perm.swap _ _ _)).openL
  subst e
  refine ⟨l, vs, rfl, h1, hl, ?_⟩
  obtain ⟨y, hp⟩ := perm_set (xs := ts.zip vs) (i := j) (x := (t, v)) (by rw [List.length_zip, ← hl, Nat.min_self]; exact hj)
  have E3 : EnvR K B ρ σ ((ts.set j t).zip (vs.set j v) ++ τ) (l :: rs) G H := by
    rw [zip_set hl]
    exact (E2.permT (List.perm_middle.trans (hp.append_right τ))).dropT
  exact (E3.write (o := .lst (vs.set j v)) (by simp)).closeL (by rw [List.length_set, List.length_set, hl]) hr upd_same
theorem w1_store (i : Nat) {ps' : Pos} (h : WV S e ρ fun t ρ1 => (∃ t1, ρ1[i]? = some (some t1)) ∧ WO S b ρ1 fun ob ρ2 => ∃ k j ts, ob.view ρ2 = some (.int k) ∧ ρ2[i]? = some (some (.lst ts)) ∧ ixN ts.length k = some j ∧ R (.nx (ρ2.set i (some (.lst (ts.set j t))))))
    (hN : S.N[i]? = some x) (hv : Vis S.sc x) (hd : (x == ("__debug__" : Str)) = false) (hcd : (x == ("__classdict__" : Str)) = false)
    (ha : ∀ env v, assign (.Subscript (.Name x px) b ps') env v = (do
      let ov ← holding [v] (eval (.Name x px) env)
      let iv ← holding [v, ov] (eval b env)
      standAt ps'
      holding [v, ov, iv] (setItem ov iv v)
      release [v, ov, iv] []))
    (hs : ∀ env, swapsWithSole [.Subscript (.Name x px) b ps'] e pos.line env = pure false) (hw : ∀ env, swappedStores [.Subscript (.Name x px) b ps'] e env = pure none)
    (h1' : ∀ env, (assignEach [.Subscript (.Name x px) b ps'] env).map (·.2) = [assign (.Subscript (.Name x px) b ps') env]) :
    W1 S (.Assign [.Subscript (.Name x px) b ps'] e pos) ρ R := by
  intro X B sd σ τ G H E D ok
  have f := sd.fit
  refine Tee.W1.by (ps_asg pe_U (pg_sub (std_var f hN hv hd hcd) pe_U set_list (ha _)) (hs _) (hw _) (h1' _)) ?_
  refine h X B sd σ τ G H E _ fun t ρ1 v G1 H1 q E1 => ?_
  obtain ⟨⟨t1, ht1⟩, q⟩ := q
  obtain ⟨w, hw1⟩ := E1.all i t1 ht1
  refine ⟨w, hw1, q X B sd σ _ G1 H1 E1 _ fun ob ρ2 u G2 H2 q2 E2 ok2 => ?_⟩
  obtain ⟨k, j, ts, e1, hr, hj, r⟩ := q2
  have ev := (Opd.dd E2 ok2 e1).intV
  obtain ⟨w', hw2, E3⟩ := (Opd.drop E2).take hr
  rw [hw1] at hw2
  cases hw2
  have hjl : j < ts.length := by
    unfold ixN at hj
    split at hj <;> split at hj <;> first | (cases hj; omega) | cases hj
  obtain ⟨l, vs, e2, h1, hl, E4⟩ := (E3.permT (List.Perm.swap _ _ _)).setL hjl
  subst e2
  have E5 := EnvR.back E4 hw1
  rw [List.set_set] at E5
  exact ⟨l, vs, k, j, rfl, ev, h1, by rw [← hl]; exact hj, ok.nx _ _ _ _ r E5⟩
theorem w1_if (h : WT S c ρ fun k ρ1 => (k = true → WS S body ρ1 R) ∧ (k = false → WS S orelse ρ1 R)) : W1 S (.If c body orelse pos) ρ R := by
  intro X B sd σ τ G H E D ok
  refine Tee.W1.by (ps_if pt_U pss_U pss_U) (h X B sd σ τ G H E _ fun k ρ1 G2 H2 q E2 => ?_)
  cases k with
  | true =>
    rw [if_pos rfl]
    exact q.1 rfl X B sd σ τ G2 H2 E2 D ok
  | false =>
    rw [if_neg (by decide)]
    exact q.2 rfl X B sd σ τ G2 H2 E2 D ok
theorem w1_ret (h : WV S e ρ fun t ρ1 => R (.rt t ρ1)) : W1 S (.Return (some e) pos) ρ R := by
  intro X B sd σ τ G H E D ok
  exact Tee.W1.by (ps_ret pe_U) (h X B sd σ τ G H E _ fun t ρ1 v G1 H1 q E1 => ok.rt _ _ _ _ _ _ q E1)
theorem w1_retN (h : R (.rt (.sh .none) ρ)) : W1 S (.Return none pos) ρ R := by
  intro X B sd σ τ G H E D ok
  exact Tee.W1.by ps_retN (ok.rt _ _ _ _ _ _ h E.non)
theorem w1_expr (h : WV S e ρ fun _ ρ1 => R (.nx ρ1)) (hs : ∀ env, swapsWith e none pos.line env = pure false) : W1 S (.Expr e pos) ρ R := by
  intro X B sd σ τ G H E D ok
  exact Tee.W1.by (ps_expr pe_U (hs _)) (h X B sd σ τ G H E _ fun t ρ1 v G1 H1 q E1 => ok.nx _ _ _ _ q E1.dropT)
theorem w1_pass (h : R (.nx ρ)) : W1 S (.Pass pos) ρ R := fun X B sd σ τ G H E D ok => Tee.W1.by ps_pass (ok.nx _ _ _ _ h E)
theorem w1_break (h : R (.bk ρ)) : W1 S (.Break pos) ρ R := fun X B sd σ τ G H E D ok => Tee.W1.by ps_break (ok.bk _ _ _ _ h E)
theorem w1_continue (h : R (.ct ρ)) : W1 S (.Continue pos) ρ R := fun X B sd σ τ G H E D ok => Tee.W1.by ps_continue (ok.ct _ _ _ _ h E)
def ForGo (S : Sta) (tg : Expr) (L : List Nat) (body : List Stmt) (R : Out → Prop) : List PyData → Rho → Prop
  | [], ρ => R (.nx ρ)
  | d :: ds, ρ => WTg S tg L ρ d fun ρ1 => WS S body ρ1 fun o => match o with
    | .nx ρ2 => ForGo S tg L body R ds ρ2
    | .ct ρ2 => ForGo S tg L body R ds ρ2
    | .bk ρ2 => R (.nx ρ2)
    | .rt t ρ2 => R (.rt t ρ2)
theorem w1_for (L : List Nat) (hi : WI S tg iter ρ fun ds ρ1 => ForGo S tg L body R ds ρ1) (hs : ∀ env x, foldedSetIterable iter env x = pure x) : W1 S (.For tg iter body [] pos) ρ R := by
  intro X B sd σ τ G H E D ok
  obtain ⟨wi, pi, hw⟩ := hi X B sd σ τ G H E
  refine Tee.W1.by (ps_for sd.fit.own sd.fit.calm pi pg_U pss_U (hs _)) (hw _ fun ds J ρ1 G1 H1 q E1 good => ?_)
  have sd1 := sd.at E1
  refine ⟨fun i m σ' H' => m = ds.length - i ∧ i ≤ ds.length ∧ ∃ ρ' G', ForGo S tg L body R (ds.drop i) ρ' ∧ EnvR S.K (B.at G1) ρ' σ' τ [] G' H', ⟨ds.length, by omega, Nat.zero_le _, ρ1, G1, q, E1.rebase⟩, ?_⟩
  rintro i m σ' H' ⟨rfl, hi', ρ', G', hJ, E'⟩
  obtain ⟨gd1, gd2⟩ := good G' (fun _ => none) H' E'.gg ⟨E'.sm, fun _ _ e => (nomatch e), fun _ _ e => (nomatch e)⟩ i
  by_cases hlt : i < ds.length
  · obtain ⟨hgo, hy⟩ := gd1 hlt
    refine .inr ⟨hgo, fun σ'' H'' => ∃ ρ' G', ForGo S tg L body R (ds.drop (i + 1)) ρ' ∧ EnvR S.K (B.at G1) ρ' σ'' τ [] G' H'', fun σ'' H'' hn => ⟨ds.length - (i + 1), by omega, rfl, hlt, hn⟩, fun v H'' hv => ?_⟩
    obtain ⟨G3, d, s3, ed, dv⟩ := hy v H'' hv
    have E3 := E'.stp (R := G3) s3
    have hdr : ds.drop i = d :: ds.drop (i + 1) := by
      have hl := (List.getElem?_eq_some_iff.mp ed).1
      rw [List.drop_eq_getElem_cons hl]
      rw [List.getElem?_eq_getElem hl] at ed
      rw [Option.some.inj ed]
    rw [hdr] at hJ
    refine hJ X _ sd1 _ τ G3 H'' E3 v dv _ fun ρ2 σ2 hK E4 _ => ?_
    exact hK X _ sd1 σ2 τ G3 H'' E4 _ ⟨fun ρ3 σ3 G5 H5 r E5 => ⟨ρ3, G5, r, E5⟩, fun t ρ3 v G5 G6 H5 r E5 => ok.rt _ _ _ _ _ _ r (E1.unbase E5), fun ρ3 σ3 G5 H5 r E5 => ok.nx _ _ _ _ r (E1.unbase E5), fun ρ3 σ3 G5 H5 r E5 => ⟨ρ3, G5, r, E5⟩⟩
  · have e : i = ds.length := by omega
    subst e
    rw [List.drop_length] at hJ
    exact .inl ⟨gd2 (Nat.le_refl _), ok.nx _ _ _ _ hJ (E1.unbase E')⟩
end
end Oak
namespace Tee
open PySem PySem.Spec PyProof.Rows L2
section
variable {S : Sta} {ρ : Rho} {R : Out → Prop} {elt tg iter a b e : Expr} {x y : Str} {p px py pos : Pos}
def SortD : PyData → (PyData → Prop) → Prop := fun d Q => ∃ ns : List Int, d = .list (ns.map .int) ∧ ∀ ns' : List Int, ns'.Perm ns → ns'.Pairwise (· ≤ ·) → Q (.list (ns'.map .int))
theorem DdAll.rev {G : Hp} : ∀ {vs : List V} {ds : List PyData}, DdAll G vs ds → DdAll G vs.reverse ds.reverse
  | _, _, .nil => .nil
  | _, _, .cons h t => by
    rw [List.reverse_cons, List.reverse_cons]
    exact (DdAll.rev t).app (.cons h .nil)
theorem EnvR.swap {K : PySem.W.Frag} {H0 : Hp} {σ σ' : L2.St} {G Rr H : Hp} (E : EnvR K H0 ρ σ G Rr H) (hl : σ'.length = σ.length) (h : ∀ (c : Nat) (q : SV), ρ[c]? = some (some q) → σ'[c]? = σ[c]?) : EnvR K H0 ρ σ' G Rr H := by
  refine ⟨E.wd, by rw [hl]; exact E.len, fun c q e => ?_, fun i j o o' v v' a h1 h2 h3 h4 => ?_⟩
  · cases q with
    | none => trivial
    | some q => rw [h c q e]; exact E.slot c _ e
  · rw [h i _ h1] at h3
    rw [h j _ h2] at h4
    exact E.apart i j o o' v v' a h1 h2 h3 h4
theorem EnvR.entry {K : PySem.W.Frag} {H0 H0' : Hp} {σ : L2.St} {G Rr H : Hp} (E : EnvR K H0 ρ σ G Rr H) (h : ∀ (i : Nat) (o : OwnO) (v : V) (a : Addr), ρ[i]? = some (some (.obj o)) → σ[i]? = some (some v) → a ∈ foot o v → H0' a = none) : EnvR K H0' ρ σ G Rr H := by
  refine ⟨E.wd, E.len, fun c q e => ?_, E.apart⟩
  have z := E.slot c q e
  cases q with
  | none => trivial
  | some q =>
    cases q with
    | dat d => cases hs : σ[c]? with
      | none => rw [hs] at z; exact z
      | some y => cases y <;> (rw [hs] at z; exact z)
    | rel => cases hs : σ[c]? with
      | none => rw [hs] at z; exact z
      | some y => cases y with
        | none => rw [hs] at z; exact z
        | some v => rw [hs] at z; cases v <;> exact z
    | scr ns => cases hs : σ[c]? with
      | none => rw [hs] at z; exact z
      | some y => cases y with
        | none => rw [hs] at z; exact z
        | some v => rw [hs] at z; cases v <;> exact z
    | obj o => cases hs : σ[c]? with
      | none => rw [hs] at z; exact z
      | some y => cases y with
        | none => rw [hs] at z; exact z
        | some v =>
          rw [hs] at z
          exact ⟨z.1, fun a ha => let ⟨k1, k2, k3, k4⟩ := z.2 a ha; ⟨k1, k2, h c o v a e hs ha, k4⟩⟩
def OwnsP (ρ : Rho) (σ : L2.St) (a : Addr) : Prop := ∃ (i : Nat) (o : OwnO) (v : V), ρ[i]? = some (some (.obj o)) ∧ σ[i]? = some (some v) ∧ a ∈ foot o v
open Classical in
noncomputable def lessP (P : Addr → Prop) (H : Hp) : Hp := fun b => if P b then none else H b
theorem EnvR.owns {K : PySem.W.Frag} {H0 : Hp} {σ : L2.St} {G Rr H : Hp} (E : EnvR K H0 ρ σ G Rr H) {a : Addr} (h : OwnsP ρ σ a) : Free H0 G Rr H a := by
  obtain ⟨i, o, v, h1, h2, h3⟩ := h
  have z := E.slot i _ h1
  rw [h2] at z
  exact z.2 a h3
end
end Tee
namespace Oak
open PySem PySem.Spec PyProof.Rows L2
open Tee (Dd DdAll ScrL SysAt tU tUT tUW tUS tU1 tUG tUB tUTB tUGB pe_U pt_U pw_U pss_U ps_U pg_U CmpD rCmp opr_cmp isNone Wd Od KD Stp OffS offS_set upTo upTo_len upTo_get Gok g_of)
def qd0 (N : List Str) (as : List T) : Rho := as.map some ++ List.replicate (N.length - as.length) none
def isSh : T → Bool
  | .sh _ => true
  | .scr _ => true
  | _ => false
def finR (ρ : Rho) : Nat → List T → Option (List T)
  | _, [] => some []
  | i, a :: as => match finR ρ (i + 1) as with
    | none => none
    | some r => if isSh a then some (a :: r) else match ρ[i]? with
      | some (some t) => some (t :: r)
      | _ => none
def fxsOf : Nat → List T → List Nat
  | _, [] => []
  | i, a :: as => if isSh a then fxsOf (i + 1) as else i :: fxsOf (i + 1) as
def fxOf : Nat → List T → List V → List (Nat × V)
  | i, a :: as, v :: vs => if isSh a then fxOf (i + 1) as vs else (i, v) :: fxOf (i + 1) as vs
  | _, _, _ => []
theorem fx_in : ∀ {n : Nat} {as : List T} {vs : List V} {i : Nat} {w : V}, (i, w) ∈ fxOf n as vs → i ∈ fxsOf n as
  | n, [], vs, i, w, h => by cases vs <;> cases h
  | n, a :: as, [], i, w, h => by cases h
  | n, a :: as, v :: vs, i, w, h => by
    unfold fxOf at h
    unfold fxsOf
    split at h
    · rename_i e; rw [if_pos e]; exact fx_in h
    · rename_i e
      rw [if_neg e]
      rcases List.mem_cons.mp h with h | h
      · cases h; exact List.mem_cons_self
      · exact List.mem_cons_of_mem _ (fx_in h)
theorem fx_get : ∀ {n : Nat} {as : List T} {vs : List V} {i : Nat} {w : V}, (i, w) ∈ fxOf n as vs → n ≤ i ∧ vs[i - n]? = some w
  | n, [], vs, i, w, h => by cases vs <;> cases h
  | n, a :: as, [], i, w, h => by cases h
  | n, a :: as, v :: vs, i, w, h => by
    have rec' : (i, w) ∈ fxOf (n + 1) as vs → n ≤ i ∧ (v :: vs)[i - n]? = some w := fun h => by
      obtain ⟨h1, h2⟩ := fx_get h
      refine ⟨by omega, ?_⟩
      rw [show i - n = (i - (n + 1)) + 1 by omega]
      simpa using h2
    unfold fxOf at h
    split at h
    · exact rec' h
    · rcases List.mem_cons.mp h with h | h
      · cases h
        exact ⟨Nat.le_refl _, by rw [Nat.sub_self]; rfl⟩
      · exact rec' h
section
variable {K : PySem.W.Frag} {B : Base} {σ : L2.St} {τ : List Cell} {G H : Hp}
theorem slots_start : ∀ (as : List T) (vs : List V) (n : Nat), as.length = vs.length → slots (as.map some ++ List.replicate n none) (vs.map some ++ List.replicate n none) = as.zip vs
  | [], [], n, _ => by
    induction n with
    | zero => rfl
    | succ n ih => rw [List.replicate_succ, List.replicate_succ]; exact ih
  | a :: as, v :: vs, n, h => by
    show (a, v) :: slots (as.map some ++ List.replicate n none) (vs.map some ++ List.replicate n none) = _
    rw [slots_start as vs n (Nat.succ.inj h)]
    rfl
  | [], _ :: _, _, h => by cases h
  | _ :: _, [], _, h => by cases h
theorem env_start {N : List Str} {vs : List V} {as : List T} {fa : Addr → Prop} (hl : as.length = vs.length) (L : Lent K G H (as.zip vs) fa) :
    EnvR K ⟨G, H, fa, fxOf 0 as vs, (L2.start N vs).length⟩ (qd0 N as) (L2.start N vs) [] [] G H := by
  have hs : slots (qd0 N as) (L2.start N vs) = as.zip vs := by
    unfold qd0 L2.start
    rw [hl]
    exact slots_start as vs _ hl
  have sget : ∀ i v, vs[i]? = some v → (L2.start N vs)[i]? = some (some v) := fun i v e => by
    unfold L2.start
    rw [List.getElem?_append_left (by rw [List.length_map]; exact (List.getElem?_eq_some_iff.mp e).1), List.getElem?_map, e]
    rfl
  refine ⟨L.sm, ⟨by unfold qd0 L2.start; simp [hl], rfl⟩, fun i t e => ?_, ⟨fa, by rw [hs, List.append_nil]; exact L.cl, fun a q => ⟨L.ng a q, L.ex a q, .inr q⟩, fun a ha => by cases ha⟩, fun a ha => (by cases ha), fun b o _ e => e, fun b o e => ⟨o, e⟩, Same.refl _, fun b o e n => (by rw [show G b = none from n] at e; cases e), fun i v h => ?_⟩
  · unfold qd0 at e
    by_cases hi : i < as.length
    · exact ⟨vs[i]'(by omega), sget i _ (List.getElem?_eq_getElem (by omega))⟩
    · rw [List.getElem?_append_right (by rw [List.length_map]; omega), List.getElem?_replicate] at e
      split at e <;> cases e
  · have := (fx_get h).2
    rw [Nat.sub_zero] at this
    exact sget i v this
theorem fin_env : ∀ (as : List T) (n : Nat) {ρ : Rho} {vs : List V} {as' : List T} {τ : List Cell}, as.length = vs.length → finR ρ n as = some as' → (∀ i w, (i, w) ∈ fxOf n as vs → σ[i]? = some (some w)) →
    (∀ (j : Nat) (a : T) (v : V), as[j]? = some a → vs[j]? = some v → isSh a = true → qe0 K G H a v fun _ => False) → EnvR K B ρ σ τ [] G H → as'.length = vs.length ∧ ∃ ρ', (∀ i, i < n → ρ'[i]? = ρ[i]?) ∧ EnvR K B ρ' σ (as'.zip vs ++ τ) [] G H
  | [], n, ρ, [], as', τ, hl, e, hf, hs, E => by cases e; exact ⟨rfl, ρ, fun _ _ => rfl, E⟩
  | a :: as, n, ρ, v :: vs, as', τ, hl, e, hf, hs, E => by
    unfold finR at e
    cases q : finR ρ (n + 1) as with
    | none => rw [q] at e; cases e
    | some r =>
      rw [q] at e
      have hs' : ∀ (j : Nat) (b : T) (w : V), as[j]? = some b → vs[j]? = some w → isSh b = true → qe0 K G H b w fun _ => False := fun j b w h1 h2 => hs (j + 1) b w (by simpa using h1) (by simpa using h2)
      by_cases ha : isSh a = true
      · have e : some (a :: r) = some as' := by
          have := e
          simp only [ha, if_true] at this
          exact this
        cases e
        obtain ⟨h1, ρ', h0, E2⟩ := fin_env as (n + 1) (Nat.succ.inj hl) q (fun i w h => hf i w (by unfold fxOf; rw [if_pos ha]; exact h)) hs' E
        refine ⟨congrArg (· + 1) h1, ρ', fun i hi => h0 i (by omega), ?_⟩
        have t := hs 0 a v rfl rfl ha
        obtain ⟨f, k1, k2, k3⟩ := E2.own
        exact ⟨E2.sm, E2.ln, E2.all, ⟨f, Cells.perm List.perm_middle.symm (Cells.cons_iff.mpr ⟨fun _ => False, f, t, k1, fun _ q => q.elim, fun _ q => q.elim, fun _ q => q⟩), k2, k3⟩, E2.rs, E2.keep, E2.dom, E2.gg, E2.gnew, E2.fx⟩
      · have e : (match ρ[n]? with
          | some (some t) => some (t :: r)
          | _ => none) = some as' := by
          have := e
          simp only [ha] at this
          exact this
        cases z : ρ[n]? with
        | none => rw [z] at e; cases e
        | some y =>
          cases y with
          | none => rw [z] at e; cases e
          | some t =>
            rw [z] at e
            cases e
            obtain ⟨h1, ρ', h0, E2⟩ := fin_env as (n + 1) (Nat.succ.inj hl) q (fun i w h => hf i w (by unfold fxOf; rw [if_neg ha]; exact List.mem_cons_of_mem _ h)) hs' E
            have hn : ρ'[n]? = some (some t) := by rw [h0 n (by omega)]; exact z
            obtain ⟨w, hw, E3⟩ := E2.take hn
            have := hf n v (by unfold fxOf; rw [if_neg ha]; exact List.mem_cons_self)
            rw [this] at hw
            cases hw
            exact ⟨congrArg (· + 1) h1, ρ'.set n none, fun i hi => by rw [List.getElem?_set_ne (by omega)]; exact h0 i (by omega), E3⟩
  | [], _, _, _ :: _, _, _, hl, _, _, _, _ => by cases hl
  | _ :: _, _, _, [], _, _, hl, _, _, _, _ => by cases hl
theorem sh_cells {f : Addr → Prop} : ∀ {as : List T} {vs : List V}, as.length = vs.length → Cells K G H (as.zip vs) f → ∀ (j : Nat) (a : T) (v : V), as[j]? = some a → vs[j]? = some v → isSh a = true → ∀ {G' H' : Hp}, Same G G' → qe0 K G' H' a v fun _ => False
  | [], _, _, _, j, a, v, h, _, _ => by simp at h
  | _ :: _, [], _, _, j, a, v, _, h, _ => by simp at h
  | b :: as, w :: vs, hl, h, 0, a, v, h1, h2, hs => by
    cases h1
    cases h2
    intro sg
    obtain ⟨f1, f2, k1, _⟩ := Cells.cons_iff.mp h
    cases b with
    | sh d => unfold qe0 at k1 ⊢; exact Dd.mono sg _ _ k1
    | scr ns => unfold qe0 at k1 ⊢; obtain ⟨x, e, z⟩ := k1; exact ⟨x, e, ScrL.mono sg z⟩
    | _ => cases hs
  | b :: as, w :: vs, hl, h, j + 1, a, v, h1, h2, hs => sh_cells (Nat.succ.inj hl) (Cells.tail h) j a v (by simpa using h1) (by simpa using h2) hs
end
def endW (as : List T) (Q0 : T → List T → Prop) : Out → Prop
  | .rt t ρ => ∃ as', finR ρ 0 as = some as' ∧ Q0 t as'
  | .nx ρ => ∃ as', finR ρ 0 as = some as' ∧ Q0 (.sh .none) as'
  | .bk _ => False
  | .ct _ => False
def endE (as : List T) (E0 : Value → XF → List T → Prop) : Value → XF → Rho → Prop := fun cls fs ρ => ∃ as', finR ρ 0 as = some as' ∧ E0 cls fs as'
section
variable {P : Program} {w : World} {K : PySem.W.Frag} {mg : Str → Option Value} {base : Heap}
theorem gok_fun {x qual : Str} {st : Stmt} {f : Addr} {fd : FuncData} {N ps : List Str} {k : Nat} (W : Wp) (F : Fun K x qual st f fd) (Sc : FnScope N ps (defScope st)) (sys : SysAt base)
    (hlen : ∀ as Q E, W as Q E → as.length = ps.length) (hb : ∀ as Q E, W as Q E → WS ⟨P, w, K, mg, base, N, defScope st, fun _ => true, k, fxsOf 0 as, endE as E⟩ (defBody st) (qd0 N as) (endW as Q)) : Gok P w K mg base (L2.CX P w) (k + 1) f fd ps (spW K W) := by
  obtain ⟨oc, od, kV, doc, pm, an, cdv, ct, osl, rfl, lk, hcd⟩ := F.ex
  refine g_of lk hcd Sc (fun vs H Q E h => ?_) fun B above t H vs Q E hg hr h => ?_
  · obtain ⟨G, as, fa, Q0, E0, L, hl, hW, _⟩ := h
    rw [← hl]
    exact hlen as Q0 E0 hW
  · obtain ⟨G, as, fa, Q0, E0, L, hl, hW, k1, k2⟩ := h
    let X : Cx := cxOf (L2.CX P w) P w K mg base N qual (defScope st) f cdv B above t H E
    let Bs : Base := ⟨G, H, fa, fxOf 0 as vs, (L2.start N vs).length⟩
    let S : Sta := ⟨P, w, K, mg, base, N, defScope st, fun _ => true, k, fxsOf 0 as, endE as E0⟩
    have ft : Fits S X := ⟨rfl, rfl, rfl, rfl, rfl, rfl, rfl, fun _ h => h, rfl, hg, hr, sys, Sc.nd, passes_of (X := X) rfl⟩
    -- how the arguments stand at the end
    have fin : ∀ {ρ : Rho} {σ : L2.St} {τ : List Cell} {G' H' : Hp} {as' : List T}, EnvR K Bs ρ σ τ [] G' H' → finR ρ 0 as = some as' → as'.length = vs.length ∧ ∃ ρ', EnvR K Bs ρ' σ (as'.zip vs ++ τ) [] G' H' := fun {ρ σ τ G' H' as'} E' e => by
      obtain ⟨h1, ρ', _, h2⟩ := fin_env as 0 hl e (fun i w h => E'.fx i w h) (fun j a v e1 e2 e3 => sh_cells hl L.cl j a v e1 e2 e3 E'.gg) E'
      exact ⟨h1, ρ', h2⟩
    have tk : Takes X (wxOf S Bs) := (takes_of (X := X) (E := E) rfl rfl rfl rfl).imp fun cls d σ H' ⟨fs, ρ, G', ⟨as', e1, e2⟩, E', xd⟩ => by
      obtain ⟨h1, ρ', E2⟩ := fin E' e1
      exact k2 cls fs as' d G' H' e2 h1 (EnvR.ends (cs := as'.zip vs) (τ := []) E2) xd
    have sd : Std S X Bs := ⟨ft, tk, fun i w h => fx_in h⟩
    refine ⟨tUS X (defBody st), pss_U, hb as Q0 E0 hW X Bs sd (L2.start N vs) [] G H (env_start hl L) _ ⟨fun ρ σ G' H' r E' => ?_, fun t ρ v σ G' H' r E' => ?_, fun _ _ _ _ r _ => r.elim, fun _ _ _ _ r _ => r.elim⟩⟩
    · obtain ⟨as', e1, e2⟩ := r
      obtain ⟨h1, ρ', E2⟩ := fin E'.non e1
      exact k1 _ as' _ G' H' e2 h1 (EnvR.ends (cs := (.sh .none, .non) :: as'.zip vs) (τ := []) (E2.permT List.perm_middle))
    · obtain ⟨as', e1, e2⟩ := r
      obtain ⟨h1, ρ', E2⟩ := fin E' e1
      exact k1 _ as' _ G' H' e2 h1 (EnvR.ends (cs := (t, v) :: as'.zip vs) (τ := []) (E2.permT List.perm_middle))
theorem has_fun {S : Sta} {x qual : Str} {st : Stmt} {f : Addr} {fd : FuncData} {N ps : List Str} {k : Nat} (W : Wp) (F : Fun S.K x qual st f fd) (hm : S.mg x = some (.ref f)) (b : Binds S.K fd ps []) (Sc : FnScope N ps (defScope st)) (sys : SysAt S.base)
    (hlen : ∀ as Q E, W as Q E → as.length = ps.length) (hb : ∀ as Q E, W as Q E → WS ⟨S.P, S.w, S.K, S.mg, S.base, N, defScope st, fun _ => true, k, fxsOf 0 as, endE as E⟩ (defBody st) (qd0 N as) (endW as Q)) : Has S x (k + 1) W :=
  ⟨f, fd, ps, hm, F.kp, b, gok_fun W F Sc sys hlen hb⟩
end
def wLaw : Wp := fun as Q _ => ∃ ns : List Int, as = [.scr ns] ∧ ns.length ≤ 63 ∧ Q (.sh (.bool true)) as
theorem law_sp {K : PySem.W.Frag} {H : Hp} {a : Addr} {ns : List Int} (hl : ns.length ≤ 63) (hO : Only H) (h0 : SqL K H a (ns.map V.int)) : spW K wLaw [.ref a] H (fun v _ => v = .bl true) fun _ _ _ => False :=
  have h : ScrL K H a (ns.map V.int) := by
    rcases h0 with (z | ⟨o, z⟩) | z
    · rcases hO a with y | ⟨o, xs, y⟩
      · rw [z] at y; cases y
      · rw [z] at y; cases y
    · exact .inl ⟨o, z⟩
    · exact .inr (.inr z)
  ⟨H, [.scr ns], fun _ => False, fun t _ => t = .sh (.bool true), fun _ _ _ => False, ⟨Same.refl _, Cells.cons_iff.mpr ⟨fun _ => False, fun _ => False, by unfold qe0; exact ⟨a, rfl, h⟩, Cells.nil, fun _ q => q.elim, fun _ q => q, fun _ q => q⟩, fun _ q => q.elim, fun _ q => q.elim⟩, rfl, ⟨ns, rfl, hl, rfl⟩,
    fun t as' v G' H' e _ ce => (by
      have e : t = .sh (.bool true) := e
      subst e
      obtain ⟨f, h1, _⟩ := ce.own
      obtain ⟨f1, f2, k1, _⟩ := Cells.cons_iff.mp h1
      unfold qe0 at k1
      exact Tee.Dd.blV k1), fun _ _ _ _ _ _ h => h.elim⟩
end Oak
namespace Oak
open PySem PySem.Spec PyProof.Rows L2
open Tee (Dd DdAll ScrL SysAt tU tUT tUW tUS tU1 tUG tUB tUTB tUGB pe_U pt_U pw_U pss_U ps_U pg_U CmpD rCmp opr_cmp isNone Wd Od KD Stp OffS offS_set upTo upTo_len upTo_get Gok g_of)
mutual
def flatT : T → Bool
  | .sh d => atom d
  | .lst ts => flatTs ts
  | .tup ts => flatTs ts
  | _ => false
def flatTs : List T → Bool
  | [] => true
  | t :: ts => flatT t && flatTs ts
end
section
variable {K : PySem.W.Frag} {G G' H : Hp}
mutual
theorem qe0.flat : ∀ (t : T) (v : V) (f : Addr → Prop), flatT t = true → qe0 K G H t v f → qe0 K G' H t v f
  | .sh d, v, f, e, h => by
    unfold qe0 at h ⊢
    exact h.atomO e
  | .lst ts, v, f, e, h => by
    unfold qe0 at h ⊢
    obtain ⟨l, vs, g, h0, h1, h2, h3, h4, h5⟩ := h
    exact ⟨l, vs, g, h0, h1, h2, h3, h4, qc0.flat ts vs g e h5⟩
  | .tup ts, v, f, e, h => by
    unfold qe0 at h ⊢
    obtain ⟨l, vs, g, h0, h1, h2, h3, h4, h5⟩ := h
    exact ⟨l, vs, g, h0, h1, h2, h3, h4, qc0.flat ts vs g e h5⟩
  | .scr _, v, f, e, h => by cases e
  | .dct _ _, v, f, e, h => by cases e
  | .ins _ _ _, v, f, e, h => by cases e
theorem qc0.flat : ∀ (ts : List T) (vs : List V) (f : Addr → Prop), flatTs ts = true → qc0 K G H ts vs f → qc0 K G' H ts vs f
  | [], [], f, e, h => by unfold qc0; trivial
  | t :: ts, v :: vs, f, e, h => by
    unfold qc0 at h ⊢
    unfold flatTs at e
    rw [Bool.and_eq_true] at e
    obtain ⟨f1, f2, h1, h2, h3⟩ := h
    exact ⟨f1, f2, qe0.flat t v f1 e.1 h1, qc0.flat ts vs f2 e.2 h2, h3⟩
  | [], _ :: _, f, e, h => by unfold qc0 at h; exact h.elim
  | _ :: _, [], f, e, h => by unfold qc0 at h; exact h.elim
end
end
def shT : T → Option T
  | .scr ns => some (.scr ns)
  | t => (toD t).map .sh
def shR (ρ : Rho) : Rho := ρ.map fun q => q.bind shT
def liveOf : Nat → Rho → List Nat
  | _, [] => []
  | n, none :: ρ => liveOf (n + 1) ρ
  | n, some _ :: ρ => n :: liveOf (n + 1) ρ
def liveFx : Nat → Rho → L2.St → List (Nat × V)
  | n, some _ :: ρ, some v :: σ => (n, v) :: liveFx (n + 1) ρ σ
  | n, _ :: ρ, _ :: σ => liveFx (n + 1) ρ σ
  | _, _, _ => []
theorem live_in : ∀ {n : Nat} {ρ : Rho} {σ : L2.St} {i : Nat} {w : V}, (i, w) ∈ liveFx n ρ σ → i ∈ liveOf n ρ ∧ n ≤ i ∧ σ[i - n]? = some (some w)
  | n, [], σ, i, w, h => by cases σ <;> cases h
  | n, none :: ρ, [], i, w, h => by cases h
  | n, some _ :: ρ, [], i, w, h => by cases h
  | n, none :: ρ, x :: σ, i, w, h => by
    obtain ⟨h1, h2, h3⟩ := live_in (n := n + 1) (ρ := ρ) (σ := σ) (show (i, w) ∈ liveFx (n + 1) ρ σ by cases x <;> exact h)
    exact ⟨h1, by omega, by rw [show i - n = (i - (n + 1)) + 1 by omega]; simpa using h3⟩
  | n, some t :: ρ, none :: σ, i, w, h => by
    obtain ⟨h1, h2, h3⟩ := live_in (n := n + 1) (ρ := ρ) (σ := σ) h
    exact ⟨List.mem_cons_of_mem _ h1, by omega, by rw [show i - n = (i - (n + 1)) + 1 by omega]; simpa using h3⟩
  | n, some t :: ρ, some v :: σ, i, w, h => by
    rcases List.mem_cons.mp h with h | h
    · cases h
      exact ⟨List.mem_cons_self, Nat.le_refl _, by rw [Nat.sub_self]; rfl⟩
    · obtain ⟨h1, h2, h3⟩ := live_in (n := n + 1) (ρ := ρ) (σ := σ) h
      exact ⟨List.mem_cons_of_mem _ h1, by omega, by rw [show i - n = (i - (n + 1)) + 1 by omega]; simpa using h3⟩
theorem live_has : ∀ {n : Nat} {ρ : Rho} {σ : L2.St} {i : Nat} {t : T} {w : V}, ρ[i]? = some (some t) → σ[i]? = some (some w) → (n + i, w) ∈ liveFx n ρ σ
  | n, [], σ, i, t, w, h, _ => by simp at h
  | n, _ :: ρ, [], i, t, w, _, h => by simp at h
  | n, q :: ρ, x :: σ, 0, t, w, h1, h2 => by cases h1; cases h2; exact List.mem_cons_self
  | n, q :: ρ, x :: σ, i + 1, t, w, h1, h2 => by
    have ih := live_has (n := n + 1) (ρ := ρ) (σ := σ) (i := i) (t := t) (w := w) (by simpa using h1) (by simpa using h2)
    rw [show n + 1 + i = n + (i + 1) by omega] at ih
    cases q with
    | none => cases x <;> exact ih
    | some u =>
      cases x with
      | none => exact ih
      | some v => exact List.mem_cons_of_mem _ ih
theorem shT_is {t u : T} (h : shT t = some u) : (∃ ns, t = .scr ns ∧ u = .scr ns) ∨ ∃ d, toD t = some d ∧ u = .sh d := by
  have gen : (toD t).map T.sh = some u → ∃ d, toD t = some d ∧ u = .sh d := fun h => by
    cases q : toD t with
    | none => rw [q] at h; cases h
    | some d => rw [q] at h; cases h; exact ⟨d, rfl, rfl⟩
  cases t with
  | scr ns => cases h; exact .inl ⟨ns, rfl, rfl⟩
  | _ => exact .inr (gen h)
theorem sh_live {ρ : Rho} {i : Nat} {u : T} (h : (shR ρ)[i]? = some (some u)) : ∃ t, ρ[i]? = some (some t) := by
  unfold shR at h
  rw [List.getElem?_map] at h
  cases q : ρ[i]? with
  | none => rw [q] at h; cases h
  | some y =>
    cases y with
    | none => rw [q] at h; cases h
    | some t => exact ⟨t, rfl⟩
theorem sh_slots {K : PySem.W.Frag} {G G2 H : Hp} (sg : Same G G2) : ∀ {ρ : Rho} {σ : L2.St} {f : Addr → Prop}, (∀ a, f a → G2 a = H a) → Cells K G H (slots ρ σ) f → Cells K G2 H (slots (shR ρ) σ) fun _ => False
  | [], σ, f, hh, h => by cases σ <;> exact Cells.nil
  | none :: ρ, [], f, hh, h => Cells.nil
  | some _ :: ρ, [], f, hh, h => by
    show Cells K G2 H (slots (_ :: shR ρ) []) _
    unfold slots
    split
    · rename_i h1 h2; cases h2
    · rename_i h2; cases h2
    · exact Cells.nil
  | none :: ρ, x :: σ, f, hh, h => sh_slots sg (ρ := ρ) (σ := σ) hh (by cases x <;> exact h)
  | some t :: ρ, none :: σ, f, hh, h => by
    have ih := sh_slots sg (ρ := ρ) (σ := σ) hh h
    show Cells K G2 H (slots (shT t :: shR ρ) (none :: σ)) _
    cases shT t <;> exact ih
  | some t :: ρ, some v :: σ, f, hh, h => by
    obtain ⟨f1, f2, k1, k2, k3, k4, k5⟩ := Cells.cons_iff.mp (show Cells K G H ((t, v) :: slots ρ σ) f from h)
    have ih := sh_slots sg (ρ := ρ) (σ := σ) (fun a q => hh a (k5 a q)) k2
    show Cells K G2 H (slots (shT t :: shR ρ) (some v :: σ)) _
    cases q : shT t with
    | none => exact ih
    | some u =>
      refine Cells.cons_iff.mpr ⟨fun _ => False, fun _ => False, ?_, ih, fun _ q => q.elim, fun _ q => q, fun _ q => q⟩
      rcases shT_is q with ⟨ns, rfl, rfl⟩ | ⟨d, e, rfl⟩
      · unfold qe0 at k1 ⊢
        obtain ⟨a, e, z⟩ := k1
        exact ⟨a, e, ScrL.mono sg z⟩
      · have dd := qe0.dd sg t v f1 d e (fun a q => hh a (k4 a q)) k1
        unfold qe0
        exact dd
noncomputable def without (G : Hp) (f : Addr → Prop) : Hp := fun b => open Classical in if f b then none else G b
theorem without_in {G : Hp} {f : Addr → Prop} {b : Addr} (h : f b) : without G f b = none := if_pos h
theorem without_out {G : Hp} {f : Addr → Prop} {b : Addr} (h : ¬ f b) : without G f b = G b := if_neg h
theorem without_some {G : Hp} {f : Addr → Prop} {b : Addr} {o : HO} (h : without G f b = some o) : ¬ f b ∧ G b = some o := by
  by_cases q : f b
  · rw [without_in q] at h; cases h
  · rw [without_out q] at h; exact ⟨q, h⟩
def flatX : XF → Bool
  | none => true
  | some fs => fs.all fun p => atom p.2
theorem dd_flat {G G' : Hp} : ∀ {vs : List V} {ds : List PyData}, ds.all atom = true → DdAll G vs ds → DdAll G' vs ds
  | _, _, _, .nil => .nil
  | _, _, e, .cons h t => by
    rw [List.all_cons, Bool.and_eq_true] at e
    exact .cons (h.atomO e.1) (dd_flat e.2 t)
theorem xd_flat {G G' H : Hp} {d : Option Addr} {fs : XF} (e : flatX fs = true) (h : XdAt G H d fs) : XdAt G' H d fs := by
  cases d with
  | none => cases fs <;> exact h
  | some a =>
    cases fs with
    | none => exact h
    | some fs =>
      obtain ⟨vs, h1, h2⟩ := h
      exact ⟨vs, h1, dd_flat (by rw [List.all_map]; exact e) h2⟩
abbrev Sta.lend (S : Sta) (ρ : Rho) : Sta := { S with fxs := liveOf 0 ρ ++ S.fxs, E := fun cls fs _ => flatX fs = true ∧ S.E cls fs ρ }
section
variable {S : Sta} {ρ : Rho} {Q : T → Rho → Prop} {a b c e : Expr} {es rest : List Expr} {x : Str} {p pos : Pos}
theorem lend_env {X : Cx} {B : Base} (st : Std S X B) {σ : L2.St} {τ : List Cell} {G H : Hp} (E : EnvR S.K B ρ σ τ [] G H) : ∃ B' G1, Std (S.lend ρ) X B' ∧ EnvR S.K B' (shR ρ) σ [] [] G1 H ∧
    ∀ ρ' σ' cs G' H', EnvR S.K B' ρ' σ' cs [] G' H' → flatTs (cs.map (·.1)) = true → (∀ (i : Nat) (t : T), ρ[i]? = some (some t) → σ[i]? = σ'[i]?) ∧ ∃ G2, EnvR S.K B ρ σ (cs ++ τ) [] G2 H' := by
  obtain ⟨f, h1, h2, _⟩ := E.own
  obtain ⟨f1, f2, k1, k2, k3, k4, k5⟩ := Cells.split h1
  have sg : Same G (joinF G H f1) := joinF_same fun a q => (h2 a (k4 a q)).ng
  let B' : Base := ⟨joinF G H f1, H, fun _ => False, liveFx 0 ρ σ ++ B.fx, B.n⟩
  have E0 : EnvR S.K B' (shR ρ) σ [] [] (joinF G H f1) H := by
    refine ⟨joinF_sub E.sm, ⟨by unfold shR; rw [List.length_map]; exact E.len, E.ln.2⟩, fun i u h => ?_, ⟨fun _ => False, ?_, fun _ q => q.elim, fun a ha => by cases ha⟩, fun a ha => (by cases ha), fun b o _ h => h, fun b o h => ⟨o, h⟩, Same.refl _, fun b o h n => (by rw [show joinF G H f1 b = none from n] at h; cases h), fun i v h => ?_⟩
    · obtain ⟨t, ht⟩ := sh_live h
      exact E.all i t ht
    · rw [List.append_nil]
      exact sh_slots sg (fun a q => joinF_in q) k1
    · rcases List.mem_append.mp h with h | h
      · have := (live_in h).2.2
        rw [Nat.sub_zero] at this
        exact this
      · exact E.fx i v h
  -- back
  have back : ∀ ρ' σ' cs G' H', EnvR S.K B' ρ' σ' cs [] G' H' → flatTs (cs.map (·.1)) = true → (∀ (i : Nat) (t : T), ρ[i]? = some (some t) → σ[i]? = σ'[i]?) ∧ ∃ G2, Same G G2 ∧ (∀ b, f1 b → G2 b = none) ∧ (∀ b, ¬ f1 b → G2 b = G' b) ∧ EnvR S.K B ρ σ (cs ++ τ) [] G2 H' := fun ρ' σ' cs G' H' E2 hc => by
    have hgg : Same (joinF G H f1) G' := E2.gg
    have s : Stp G (fun _ => none) H (without G' f1) (fun _ => none) H' := by
      refine ⟨⟨fun b o h => E2.sm b o (without_some h).2, fun _ _ h => (nomatch h), fun _ _ h => (nomatch h)⟩, fun b o _ h => E2.keep b o (fun z => z) h, fun b o h => E2.dom b o h, fun b o h => ?_, fun b o h n => ?_, fun _ _ h => (nomatch h), fun _ h => h⟩
      · have nb : ¬ f1 b := fun q => by rw [(h2 b (k4 b q)).ng] at h; cases h
        rw [without_out nb]
        exact hgg b o (by rw [joinF_out nb]; exact h)
      · obtain ⟨nb, h'⟩ := without_some h
        exact (E2.gnew b o h' (show joinF G H f1 b = none by rw [joinF_out nb]; exact n)).elim id fun z => z.elim
    have E3 := E.stp (R := fun _ => none) s
    refine ⟨fun i t ht => ?_, without G' f1, s.gg, fun b q => without_in q, fun b q => without_out q, ?_⟩
    · obtain ⟨w, hw⟩ := E.all i t ht
      have := E2.fx i w (List.mem_append_left _ (by have := live_has (n := 0) ht hw; rwa [Nat.zero_add] at this))
      rw [hw, this]
    · obtain ⟨g, m1, m2, _⟩ := E2.own
      obtain ⟨g1, g2, c1, c2, c3, c4, c5⟩ := Cells.split m1
      have c2 : Cells S.K (without G' f1) H' cs g2 := qc0.flat _ _ _ hc c2
      obtain ⟨f', n1, n2, n3⟩ := E3.own
      have fresh : ∀ a, g2 a → H a = none := fun a q => (m2 a (c5 a q)).rg.elim id fun z => z.elim
      have mine : ∀ a, g2 a → Mine B (without G' f1) H' a := fun a q => by
        have m := m2 a (c5 a q)
        refine ⟨?_, m.ex, .inl ?_⟩
        · by_cases z : f1 a
          · exact without_in z
          · rw [without_out z]; exact m.ng
        · cases z : B.H0 a with
          | none => rfl
          | some u =>
            obtain ⟨w, y⟩ := E.dom a u z
            rw [fresh a q] at y
            cases y
      -- what stood before stands apart
      obtain ⟨f0, p1, p2, p3⟩ := E.own
      have hH : ∀ b o, H b = some o → H' b = some o := fun b o h => E2.keep b o (fun z => z) h
      have p1' : Cells S.K (without G' f1) H' (slots ρ σ ++ τ) f0 := p1.mono s.gg (fun a q => by
        obtain ⟨u, z⟩ := (p2 a q).ex
        rw [z]; exact hH a u z) fun _ q => q
      have mine0 : ∀ a, f0 a → Mine B (without G' f1) H' a := fun a q => by
        have m := p2 a q
        obtain ⟨u, z⟩ := m.ex
        refine ⟨?_, ⟨u, hH a u z⟩, m.rg⟩
        cases y : without G' f1 a with
        | none => rfl
        | some o =>
          have := s.gnew a o y m.ng
          rw [z] at this
          cases this
      exact ⟨E3.sm, E3.ln, E3.all, ⟨fun a => f0 a ∨ g2 a, Cells.perm (perm_mid _ _ _).symm (Cells.app c2 p1' (fun a q z => by
        obtain ⟨u, y⟩ := (p2 a z).ex
        rw [fresh a q] at y
        cases y) (fun a q => .inr q) fun a q => .inl q), fun a q => q.elim (mine0 a) (mine a), fun a ha => by cases ha⟩, E3.rs, E3.keep, E3.dom, E3.gg, E3.gnew, E3.fx⟩
  refine ⟨B', _, ⟨⟨st.fit.prog, st.fit.w, st.fit.K, st.fit.mg, st.fit.base, st.fit.N, st.fit.sc, st.fit.fn, st.fit.calm, st.fit.gd, st.fit.room, st.fit.sys, st.fit.nd, st.fit.own⟩, st.tk.imp fun cls d σ' H' ⟨fs, ρ', G', ⟨e1, e2⟩, E2, xd⟩ => ?_, fun i w h => List.mem_append.mpr ((List.mem_append.mp h).imp (fun h => (live_in h).1) (st.fx i w))⟩, E0, fun ρ' σ' cs G' H' E2 hc => let ⟨q1, G2, _, _, _, q2⟩ := back ρ' σ' cs G' H' E2 hc; ⟨q1, G2, q2⟩⟩
  obtain ⟨q1, G2, _, _, _, q2⟩ := back ρ' σ' [] G' H' E2 rfl
  have hl : σ.length = σ'.length := by
    rw [E.ln.2]
    exact E2.ln.2.symm
  refine ⟨fs, ρ, G2, e2, ?_, xd_flat e1 xd⟩
  exact (EnvR.dropAll (cs := τ) (τ := []) (by rw [List.append_nil]; exact q2)).swapσ hl q1 fun i v h => E2.fx i v (List.mem_append_right _ h)
theorem wv_lend (h : WV (S.lend ρ) e (shR ρ) fun t _ => flatT t = true ∧ Q t ρ) : WV S e ρ Q := by
  intro X B st σ τ G H E QV kq
  obtain ⟨B', G1, st', E', back⟩ := lend_env st E
  refine h X B' st' σ [] G1 H E' QV fun t ρ' v G' H' q E2 => ?_
  obtain ⟨_, G2, E3⟩ := back ρ' σ [(t, v)] G' H' E2 (by show (flatT t && true) = true; rw [q.1]; rfl)
  exact kq _ _ _ _ _ q.2 E3
theorem wt_lend {Q : Bool → Rho → Prop} (h : WT (S.lend ρ) e (shR ρ) fun k _ => Q k ρ) : WT S e ρ Q := by
  intro X B st σ τ G H E QV kq
  obtain ⟨B', G1, st', E', back⟩ := lend_env st E
  refine h X B' st' σ [] G1 H E' QV fun k ρ' G' H' q E2 => ?_
  obtain ⟨_, G2, E3⟩ := back ρ' σ [] G' H' E2 rfl
  exact kq _ _ _ _ q E3
end
end Oak
namespace Tee
open PySem PySem.Spec PyProof.Rows L2
section
variable {S : Sta} {ρ : Rho} {a : Expr} {p p2 pos pos2 : Pos}
end
end Tee
namespace Oak
open PySem PySem.Spec PyProof.Rows L2
open Tee (Dd DdAll ScrL SysAt tU tUT tUW tUS tU1 tUG pe_U pt_U pw_U pss_U ps_U pg_U Wd Od KD Stp tyName cutD zipD)
abbrev NoSt (a : Expr) : Prop := ∀ es env, starEach (a :: es) env = (false, eval a env) :: starEach es env
abbrev qf0 (o : Opd) (ρ : Rho) (ds : List PyData) : Prop := o.lst ρ = some ds
abbrev qh0 (o : Opd) (ρ : Rho) (ds : List PyData) : Prop := o.tup ρ = some ds
section
variable {S : Sta} {ρ : Rho} {Q : T → Rho → Prop} {a b c e : Expr} {es rest : List Expr} {x y : Str} {p pos : Pos}
theorem items_l {K : PySem.W.Frag} {B : Base} {σ : L2.St} {τ : List Cell} {G H : Hp} {ds : List PyData} {v : V} {o : Opd} (E : EnvR K B ρ σ (o.cells v τ) [] G H) (ok : o.ok v σ) (h : qf0 o ρ ds) : ∃ l vs, v = .ref l ∧ H l = some (.lst vs) ∧ DdAll G vs ds := by
  exact Opd.lst_at E ok h
theorem items_t {K : PySem.W.Frag} {B : Base} {σ : L2.St} {τ : List Cell} {G H : Hp} {ds : List PyData} {v : V} {o : Opd} (E : EnvR K B ρ σ (o.cells v τ) [] G H) (ok : o.ok v σ) (h : qh0 o ρ ds) : ∃ l vs, v = .ref l ∧ H l = some (.tup vs) ∧ DdAll G vs ds := by
  exact Opd.tup_at E ok h
theorem glob_of {X : Cx} (f : Fits S X) (hg : S.sc.names.lookup x = some .globalImplicit) : Gl X x := by
  show X.env.scope.names.lookup x = _
  rw [f.sc]
  exact hg
theorem wv_isi {Ty : Str} {n : String} {pT : Pos} (h : WO S a ρ fun o ρ1 => ∃ d k, o.view ρ1 = some d ∧ kitB (tyName d) n = some k ∧ Q (.sh (.bool k)) ρ1) (hT : bootBuiltins Ty = some (.type n)) (hmT : S.mg Ty = none) (hm : S.mg "isinstance" = none)
    (hg : S.sc.names.lookup ("isinstance" : Str) = some .globalImplicit) (hgT : S.sc.names.lookup Ty = some .globalImplicit) (hnT : Ty ≠ "__name__") (hdT : (Ty == ("__debug__" : Str)) = false) (ha : NoSt a) : WV S (.Call (.Name "isinstance" p) [a, .Name Ty pT] [] pos) ρ Q := by
  intro X B st σ τ G H E QV kq
  have f := st.fit
  refine Tee.WE.by (pe_callB call_isi (glob_of f hg) (by rw [f.mg]; exact hm) (by exact boot_isinstance)
    (pa_cons pe_U (pa_cons (pe_bltn (v := .ty n) (glob_of f hgT) (by rw [f.mg]; exact hmT) hT rfl hnT hdT) pa_nil) (ha _ _)) (by decide) (by decide) (ha _ _) rfl) ?_
  refine h X B st σ τ G H E _ fun o ρ1 v G1 H1 q E1 ok => ?_
  obtain ⟨d, k, e1, e2, q⟩ := q
  have dd := Opd.dd E1 ok e1
  exact ⟨v, .ty n, _, _, k, rfl, .ty n, dd.ty (Same.refl _), kit_ty e2, kq _ _ _ _ _ q ((Opd.drop E1).bl k)⟩
theorem wv_isi2 {Ty Ty' : Str} {n n' : String} {pT pT' pt : Pos} {kt : Nat} (h : WO S a ρ fun o ρ1 => ∃ d k k', o.view ρ1 = some d ∧ kitB (tyName d) n = some k ∧ kitB (tyName d) n' = some k' ∧ Q (.sh (.bool (k || k'))) ρ1)
    (hT : bootBuiltins Ty = some (.type n)) (hT' : bootBuiltins Ty' = some (.type n')) (hmT : S.mg Ty = none) (hmT' : S.mg Ty' = none) (hm : S.mg "isinstance" = none)
    (hg : S.sc.names.lookup ("isinstance" : Str) = some .globalImplicit) (hgT : S.sc.names.lookup Ty = some .globalImplicit) (hgT' : S.sc.names.lookup Ty' = some .globalImplicit) (hnT : Ty ≠ "__name__") (hdT : (Ty == ("__debug__" : Str)) = false) (hnT' : Ty' ≠ "__name__") (hdT' : (Ty' == ("__debug__" : Str)) = false) (ha : NoSt a) :
    WV S (.Call (.Name "isinstance" p) [a, .Tuple [.Name Ty pT, .Name Ty' pT'] kt pt] [] pos) ρ Q := by
  intro X B st σ τ G H E QV kq
  have f := st.fit
  refine Tee.WE.by (pe_callB call_isiT (glob_of f hg) (by rw [f.mg]; exact hm) (by exact boot_isinstance)
    (pa_cons pe_U (pa_cons (pe_tup (pa_cons (pe_bltn (v := .ty n) (glob_of f hgT) (by rw [f.mg]; exact hmT) hT rfl hnT hdT)
      (pa_cons (pe_bltn (v := .ty n') (glob_of f hgT') (by rw [f.mg]; exact hmT') hT' rfl hnT' hdT') pa_nil))) pa_nil) (ha _ _)) (by decide) (by decide) (ha _ _) rfl) ?_
  refine h X B st σ τ G H E _ fun o ρ1 v G1 H1 q E1 ok => ?_
  obtain ⟨d, k, k', e1, e2, e3, q⟩ := q
  refine ⟨by show 2 ≤ sizeLine; decide, fun tp hp => ?_⟩
  have gr : Same H1 (upd H1 tp (.tup [.ty n, .ty n'])) := fun b o e => by rw [upd_ne (ne_of_none e hp)]; exact e
  have dd := Dd.mono gr _ _ (Opd.dd E1 ok e1)
  refine ⟨v, tp, [.ty n, .ty n'], _, _, k || k', rfl, upd_same, .cons (.ty n) (.cons (.ty n') .nil), dd.ty (Same.refl _), kitAny_cons (kit_ty e2) (fun z => ?_) (fun z => by rw [z]; rfl), kq _ _ _ _ _ q (((Opd.drop E1).grow gr).bl _)⟩
  rw [z, Bool.false_or]
  refine kitAny_cons (kit_ty e3) (fun z2 => ?_) fun z2 => z2
  rw [z2]
  exact kitAny_nil
theorem wv_repr (h : WO S a ρ fun o ρ1 => ∃ d : PyData, o.view ρ1 = some d ∧ ((∃ xs, d = .list xs) ∨ (∃ xs, d = .tuple xs)) ∧ d.showable = true ∧ d.depth ≤ 60 ∧ d.shown.length ≤ sizeLine ∧ Q (.sh (.str d.shown)) ρ1) (hm : S.mg "repr" = none) (hg : S.sc.names.lookup ("repr" : Str) = some .globalImplicit) (ha : NoSt a) : WV S (.Call (.Name "repr" p) [a] [] pos) ρ Q := by
  intro X B st σ τ G H E QV kq
  have f := st.fit
  refine Tee.WE.by (pe_callB (Tee.call_repr_data f.sys f.gd f.room.units) (glob_of f hg) (by rw [f.mg]; exact hm) (by exact boot_repr) (pa_cons pe_U pa_nil (ha _ _)) (by decide) (by decide) (ha _ _) rfl) ?_
  refine h X B st σ τ G H E _ fun o ρ1 v G1 H1 q E1 ok => ?_
  obtain ⟨d, e1, k, q1, q2, q3, q⟩ := q
  have dd := Opd.dd E1 ok e1
  have hv : ∃ l, v = .ref l := by
    rcases k with ⟨xs, rfl⟩ | ⟨xs, rfl⟩
    · cases dd; exact ⟨_, rfl⟩
    · cases dd; exact ⟨_, rfl⟩
  obtain ⟨l, rfl⟩ := hv
  exact ⟨l, d, rfl, dd, q1, q2, q3, kq _ _ _ _ _ q ((Opd.drop E1).addSh (.str _))⟩
theorem wv_toLis (h : WO S a ρ fun o ρ1 => ∃ ds, (qf0 o ρ1 ds ∨ qh0 o ρ1 ds) ∧ Q (.lst (ds.map .sh)) ρ1) (hm : S.mg "list" = none) (hg : S.sc.names.lookup ("list" : Str) = some .globalImplicit) (ha : NoSt a) : WV S (.Call (.Name "list" p) [a] [] pos) ρ Q := by
  intro X B st σ τ G H E QV kq
  have f := st.fit
  refine Tee.WE.by (pe_callTy call_list_of (glob_of f hg) (by rw [f.mg]; exact hm) (by exact PyProof.Rows.boot_list) (pa_cons pe_U pa_nil (ha _ _)) (by decide) (by decide) (ha _ _) rfl) ?_
  refine h X B st σ τ G H E _ fun o ρ1 v G1 H1 q E1 ok => ?_
  obtain ⟨ds, hi | hi, q⟩ := q
  · obtain ⟨l, vs, rfl, h1, r⟩ := items_l E1 ok hi
    exact ⟨l, vs, rfl, .inl (SqL.of h1), fun p hp => kq _ _ _ _ _ q ((Opd.drop E1).newOwn r hp)⟩
  · obtain ⟨l, vs, rfl, h1, r⟩ := items_t E1 ok hi
    exact ⟨l, vs, rfl, .inr (SqT.of h1), fun p hp => kq _ _ _ _ _ q ((Opd.drop E1).newOwn r hp)⟩
theorem wv_toTup (h : WO S a ρ fun o ρ1 => (∃ ds, qf0 o ρ1 ds ∧ Q (.tup (ds.map .sh)) ρ1)) (hm : S.mg "tuple" = none) (hg : S.sc.names.lookup ("tuple" : Str) = some .globalImplicit) (ha : NoSt a) : WV S (.Call (.Name "tuple" p) [a] [] pos) ρ Q := by
  intro X B st σ τ G H E QV kq
  have f := st.fit
  refine Tee.WE.by (pe_callTy call_tuple_of (glob_of f hg) (by rw [f.mg]; exact hm) (by exact PyProof.Rows.boot_tuple) (pa_cons pe_U pa_nil (ha _ _)) (by decide) (by decide) (ha _ _) rfl) ?_
  refine h X B st σ τ G H E _ fun o ρ1 v G1 H1 q E1 ok => ?_
  obtain ⟨ds, hi, q⟩ := q
  obtain ⟨l, vs, rfl, h1, r⟩ := items_l E1 ok hi
  exact ⟨l, vs, rfl, .inl ⟨SqL.of h1, fun p hp => kq _ _ _ _ _ q ((Opd.drop E1).newTup r hp)⟩⟩
theorem wv_sortI (h : WO S a ρ fun o ρ1 => ∃ ns : List Int, o.view ρ1 = some (.list (ns.map .int)) ∧ ∀ ns' : List Int, ns'.Perm ns → ns'.Pairwise (· ≤ ·) → Q (.lst ((ns'.map PyData.int).map .sh)) ρ1) (hm : S.mg "sorted" = none) (hv : bootBuiltins "sorted" = some (.builtin "sorted")) (hg : S.sc.names.lookup ("sorted" : Str) = some .globalImplicit) (ha : NoSt a) : WV S (.Call (.Name "sorted" p) [a] [] pos) ρ Q := by
  intro X B st σ τ G H E QV kq
  have f := st.fit
  refine Tee.WE.by (pe_callB cr_sortedI (glob_of f hg) (by rw [f.mg]; exact hm) hv (pa_cons pe_U pa_nil (ha _ _)) (by decide) (by decide) (ha _ _) rfl) ?_
  refine h X B st σ τ G H E _ fun o ρ1 v G1 H1 q E1 ok => ?_
  obtain ⟨ns, e1, q⟩ := q
  have dd := Opd.dd E1 ok e1
  cases dd with
  | @lst l vs _ h1 r =>
    have e := Tee.DdAll.intsV ns r
    subst e
    exact ⟨l, ns, rfl, SqL.of h1, fun ns' p h2 h3 hp => kq _ _ _ _ _ (q ns' h2 h3) ((Opd.drop E1).newOwn (Tee.DdAll.ints ns') hp)⟩
def tUP (X : Cx) (o : Option Expr) : TO := fun σ H Q' => ∀ pins s, Inv X pins σ H s → wpAny (model X.prog X.w) X.A (evalPart o X.env) (fun u s' => ∃ r H', Inv X pins σ H' s' ∧ IsPart u r ∧ Q' r H') X.xe s
theorem po_U {X : Cx} {o : Option Expr} : PO X o (tUP X o) := ⟨fun pins s σ H Q' I h => h pins s I⟩
def WPa (S : Sta) (o : Option Expr) (ρ : Rho) (Q : Option Int → Rho → Prop) : Prop :=
  ∀ X B, Std S X B → ∀ σ τ G H, EnvR S.K B ρ σ τ [] G H → ∀ QV : Option Int → Hp → Prop, (∀ i ρ' G' H', Q i ρ' → EnvR S.K B ρ' σ τ [] G' H' → QV i H') → tUP X o σ H QV
theorem wpa_none {Q : Option Int → Rho → Prop} (q : Q none ρ) : WPa S none ρ Q := fun X B st σ τ G H E QV kq pins s I => (po_none (X := X)).run pins s σ H QV I (kq _ _ _ _ q E)
theorem wpa_some {Q : Option Int → Rho → Prop} (h : WO S e ρ fun o ρ1 => ∃ i, o.view ρ1 = some (.int i) ∧ Q (some i) ρ1) : WPa S (some e) ρ Q := fun X B st σ τ G H E QV kq pins s I =>
  (po_some (X := X) pe_U).run pins s σ H QV I (h X B st σ τ G H E _ fun o ρ1 v G1 H1 q E1 ok => by
    obtain ⟨i, e1, q⟩ := q
    exact ⟨i, (Opd.dd E1 ok e1).intV, kq _ _ _ _ q (Opd.drop E1)⟩)
theorem wv_slice {lo hi : Option Expr} {p2 : Pos} (h : WO S a ρ fun o ρ1 => WPa S lo ρ1 fun i ρ2 => WPa S hi ρ2 fun j ρ3 => (∃ ds, qf0 o ρ3 ds ∧ Q (.lst ((Tee.cutD ds i j).map .sh)) ρ3) ∨ (∃ ds, o.tree ρ3 = some (.sh (.tuple ds)) ∧ Q (.sh (.tuple (Tee.cutD ds i j))) ρ3) ∨ ∃ ns : List Int, o.tree ρ3 = some (.scr ns) ∧ Q (.lst ((Tee.cutD (ns.map .int) i j).map .sh)) ρ3) : WV S (.Subscript a (.Slice lo hi none p2) pos) ρ Q := by
  intro X B st σ τ G H E QV kq pins s I
  refine (pe_slice (r := fun x lo hi H Q' => rSlL X.K x lo hi H Q' ∨ rSlA X.K x lo hi H Q') (sl_list.or sl_tupA) pe_U po_U po_U).run pins s σ H QV I (h X B st σ τ G H E _ fun o ρ1 v G1 H1 q E1 ok => ?_)
  refine q X B st σ _ G1 H1 E1 _ fun i ρ2 G2 H2 q2 E2 => ?_
  refine q2 X B st σ _ G2 H2 E2 _ fun j ρ3 G3 H3 q3 E3 => ?_
  have E0 := Opd.drop E3
  rcases q3 with ⟨ds, hi, q⟩ | ⟨ds, hi, q⟩ | ⟨ns, hi, q⟩
  · obtain ⟨l, vs, rfl, h1, r⟩ := items_l E3 ok hi
    exact .inl ⟨l, vs, rfl, SqL.of h1, fun p hp => kq _ _ _ _ _ q (E0.newOwn (Tee.DdAll.cut r _ _) hp)⟩
  · obtain ⟨f, ht, _⟩ := Opd.at E3 ok hi
    unfold qe0 at ht
    cases ht with
    | @tup l vs _ h1 r =>
      refine .inr ⟨l, vs, rfl, SqT.of (E3.sm _ _ h1), fun hw => ?_, fun _ p hp => ?_⟩
      · have ew : Tee.cutD ds i j = ds := by
          rw [Tee.DdAll.len r] at hw
          unfold Tee.cutD
          rw [hw.1, hw.2]
          exact List.take_of_length_le (by rw [List.length_drop]; exact Nat.le_refl _)
        rw [ew] at q
        exact kq _ _ _ _ _ q (E0.addSh (.tup h1 r))
      · have E4 := E0.newTup (Tee.DdAll.cut r i j) hp
        obtain ⟨G4, sg, E5⟩ := E4.freeze (d := .tuple (Tee.cutD ds i j)) (by show (toDs _).map _ = _; rw [toDs_sh]; rfl)
        exact kq _ _ _ _ _ q E5
  · obtain ⟨f, ht, _⟩ := Opd.at E3 ok hi
    unfold qe0 at ht
    obtain ⟨a, rfl, z⟩ := ht
    have r : DdAll G3 (ns.map V.int) (ns.map PyData.int) := by
      clear hi q z
      induction ns with
      | nil => exact .nil
      | cons n ns ih => exact .cons (.int _) ih
    exact .inl ⟨a, ns.map V.int, rfl, Same.seq E3.sm (by rw [st.fit.K]; exact z.seq), fun p hp => kq _ _ _ _ _ q (E0.newOwn (Tee.DdAll.cut r _ _) hp)⟩
theorem wi_zip {elts : List Expr} {kk : Nat} {tpos : Pos} {Qd : List PyData → Rho → Prop} (h : WL S [a, b] ρ fun ts ρ1 => ∃ xs ys, (ts.map toD = [some (.list xs), some (.list ys)] ∨ ts.map toD = [some (.tuple xs), some (.tuple ys)]) ∧ Qd (zipD xs ys) ρ1) (hm : S.mg "zip" = none) (hg : S.sc.names.lookup ("zip" : Str) = some .globalImplicit)
    (ha : NoSt a) (hb : NoSt b) : WI S (.Tuple elts kk tpos) (.Call (.Name "zip" p) [a, b] [] pos) ρ Qd := by
  intro X B st σ τ G H E
  have f := st.fit
  obtain ⟨t, pt, ht⟩ := h X B st σ τ G H E
  refine ⟨_, RZ.pi_zipA (glob_of f hg) (by rw [f.mg]; exact hm) pt (ha _ _) (by rw [hb]; rfl), fun RV k => ht _ fun ts ρ1 vs G1 H1 ⟨xs, ys, e, q⟩ hl E1 => ?_⟩
  obtain ⟨t1, t2, v1, v2, rfl, rfl⟩ : ∃ t1 t2 v1 v2, ts = [t1, t2] ∧ vs = [v1, v2] := by
    have l2 : ts.length = 2 := by
      rcases e with z | z
      · simpa using congrArg List.length z
      · simpa using congrArg List.length z
    match ts, vs, l2, hl with
    | [t1, t2], [v1, v2], _, _ => exact ⟨t1, t2, v1, v2, rfl, rfl⟩
  have fin : ∀ {d1 d2 : PyData}, toD t1 = some d1 → toD t2 = some d2 → ∃ G2, EnvR S.K B ρ1 σ τ [] G2 H1 ∧ Dd G2 v1 d1 ∧ Dd G2 v2 d2 := fun {d1 d2} h1 h2 => by
    obtain ⟨G2, _, E2⟩ := E1.freeze h1
    have k1 := E2.dd
    obtain ⟨G3, sg, E3⟩ := E2.dropT.freeze h2
    exact ⟨G3, E3.dropT, Dd.mono sg _ _ k1, E3.dd⟩
  rcases e with e | e
  · simp only [List.map_cons, List.map_nil, List.cons.injEq, and_true] at e
    obtain ⟨G2, E2, k1, k2⟩ := fin e.1 e.2
    cases k1 with
    | lst q1 r1 =>
      cases k2 with
      | lst q2 r2 => exact ⟨_, _, _, _, rfl, .inl ⟨SqL.of (E2.sm _ _ q1), SqL.of (E2.sm _ _ q2), k _ _ ρ1 G2 H1 q E2 (Tee.good_zip (K := X.K) (fun _ _ => Iff.rfl) (fun _ _ _ _ z => z) (fun _ _ z => z) q1 q2 r1 r2)⟩⟩
  · simp only [List.map_cons, List.map_nil, List.cons.injEq, and_true] at e
    obtain ⟨G2, E2, k1, k2⟩ := fin e.1 e.2
    cases k1 with
    | tup q1 r1 =>
      cases k2 with
      | tup q2 r2 => exact ⟨_, _, _, _, rfl, .inr ⟨SqT.of (E2.sm _ _ q1), SqT.of (E2.sm _ _ q2), k _ _ ρ1 G2 H1 q E2 (Tee.good_zipT (K := X.K) (fun _ _ => Iff.rfl) (fun _ _ _ _ z => z) (fun _ _ z => z) q1 q2 r1 r2)⟩⟩
end
end Oak
namespace Oak
open PySem PySem.Spec PyProof.Rows L2
open Tee (Dd DdAll ScrL SysAt tU tUT tUW tUS tU1 tUG pe_U pt_U pw_U pss_U ps_U pg_U Wd Od KD Stp)
theorem get_lst {X : Cx} : PGet X (rIxL X.K) := by
  intro pins s σ H x y v u Q I rx ry h
  obtain ⟨p, xs, i, z, rfl, rfl, hq, he, q⟩ := h
  cases rx
  obtain ⟨t, rfl⟩ := ry
  obtain ⟨its, r, pl, hz⟩ := I.list hq
  obtain ⟨j, h1, h2, h3, h4, h5⟩ := atI_get he
  obtain ⟨w, ew, rw'⟩ := r.get h2
  have hl := r.length
  have hn := line63
  have fin : EP X pins σ Q w s := ⟨z, H, I, rw', q⟩
  by_cases h0 : 0 ≤ i
  · have hj : i.toNat = j := by
      rw [seqIndex_of h0 h5] at h1
      exact Option.some.inj h1
    exact wpAny_getItem_list pl.isList h0 (by omega) (by rw [hj]; simpa using ew) fin
  · have hj : (i + (its.toArray.size : Int)).toNat = j := by
      rw [seqIndex_neg (by omega) h4] at h1
      rw [List.size_toArray, ← hl]
      exact Option.some.inj h1
    exact wpAny_getItem_list_neg pl.isList (by omega) (by rw [List.size_toArray] <;> omega) (by omega) (by rw [hj]; simpa using ew) fin
section
variable {S : Sta} {ρ : Rho} {R : Out → Prop} {Q : T → Rho → Prop} {a b c e : Expr} {es body : List Expr} {x y z : Str} {p px py pz pos : Pos}
theorem w1_augS (i : Nat) {ps' : Pos} {t1 : T} (hr0 : ρ[i]? = some (some t1)) (h : WO S b ρ fun ob ρ1 => ∃ k n ds, ob.view ρ1 = some (.int k) ∧ (Opd.var i).lst ρ1 = some ds ∧ atI ds k = some (.int n) ∧ WO S e ρ1 fun oe ρ2 => ∃ m ts j, oe.view ρ2 = some (.int m) ∧ ρ2[i]? = some (some (.lst ts)) ∧ ixN ts.length k = some j ∧ R (.nx (ρ2.set i (some (.lst (ts.set j (.sh (.int (n + m)))))))))
    (hN : S.N[i]? = some x) (hv : Vis S.sc x) (hd : (x == ("__debug__" : Str)) = false) (hcd : (x == ("__classdict__" : Str)) = false)
    (ha : ∀ ov iv new, augStore b ov iv new = (do holding [new, ov, iv] (setItem ov iv new); release [new, ov, iv] []; pure .next)) :
    W1 S (.AugAssign (.Subscript (.Name x px) b ps') .Add e pos) ρ R := by
  intro X B sd σ τ G H E D ok
  have f := sd.fit
  refine Tee.W1.by (ps_augS (std_var f hN hv hd hcd) pe_U get_lst pe_U ip_add set_list ha) ?_
  obtain ⟨w, hw⟩ := E.all i t1 hr0
  refine ⟨w, hw, h X B sd σ τ G H E _ fun ob ρ1 u G1 H1 q E1 ok1 => ?_⟩
  obtain ⟨k, n, ds, e1, hl, hat, q⟩ := q
  have ek := (Opd.dd E1 ok1 e1).intV
  have E1' := Opd.drop E1
  obtain ⟨l, vs, ew, h1, r⟩ := Opd.lst_at (o := .var i) (v := w) E1' hw hl
  obtain ⟨z, k1, dz⟩ := Tee.DdAll.ix r hat
  have ez := dz.intV
  subst ez
  refine ⟨l, vs, k, .int n, ew, ek, SqL.of h1, k1, q X B sd σ τ G1 H1 E1' _ fun oe ρ2 y G2 H2 q2 E2 ok2 => ?_⟩
  obtain ⟨m, ts, j, e2, hr, hj, r⟩ := q2
  have em := (Opd.dd E2 ok2 e2).intV
  obtain ⟨w', hw2, E3⟩ := (Opd.drop E2).take hr
  rw [hw] at hw2
  cases hw2
  have hjl : j < ts.length := by
    unfold ixN at hj
    split at hj <;> split at hj <;> first | (cases hj; omega) | cases hj
  obtain ⟨l', vs', e3, h3, hl3, E5⟩ := (E3.int (n + m)).setL hjl
  have E6 := EnvR.back E5 hw
  rw [List.set_set] at E6
  exact ⟨n, m, rfl, em, l', vs', k, j, e3, ek, h3, by rw [← hl3]; exact hj, ok.nx _ _ _ _ r E6⟩
def WhGo (S : Sta) (c : Expr) (body : List Stmt) (R : Out → Prop) : Nat → Rho → Prop
  | 0, _ => False
  | n + 1, ρ => WT S c ρ fun k ρ1 => (k = true → WS S body ρ1 fun o => match o with
      | .nx ρ2 => WhGo S c body R n ρ2
      | .ct ρ2 => WhGo S c body R n ρ2
      | .bk ρ2 => R (.nx ρ2)
      | .rt t ρ2 => R (.rt t ρ2)) ∧ (k = false → R (.nx ρ1))
theorem w1_while {body : List Stmt} (n : Nat) (h : WhGo S c body R n ρ) : W1 S (.While c body [] pos) ρ R := by
  intro X B sd σ τ G H E D ok
  refine Tee.W1.by (ps_while sd.fit.own pt_U pss_U) ⟨fun m σ' H' => ∃ ρ' G', WhGo S c body R m ρ' ∧ EnvR S.K B ρ' σ' τ [] G' H', ⟨n, ρ, G, h, E⟩, fun m σ' H' ⟨ρ', G', hg, E'⟩ => ?_⟩
  cases m with
  | zero => exact hg.elim
  | succ m =>
    refine hg X B sd σ' τ G' H' E' _ fun k ρ1 G1 H1 q E1 => ?_
    cases k with
    | true => exact ⟨fun σ2 H2 => ∃ ρ2 G2, WhGo S c body R m ρ2 ∧ EnvR S.K B ρ2 σ2 τ [] G2 H2, fun σ2 H2 h => ⟨m, Nat.lt_succ_self _, h⟩, q.1 rfl X B sd σ' τ G1 H1 E1 _
        ⟨fun ρ3 σ3 G5 H5 r E5 => ⟨ρ3, G5, r, E5⟩, fun t ρ3 v σ3 G5 H5 r E5 => ok.rt _ _ _ _ _ _ r E5, fun ρ3 σ3 G5 H5 r E5 => ok.nx _ _ _ _ r E5, fun ρ3 σ3 G5 H5 r E5 => ⟨ρ3, G5, r, E5⟩⟩⟩
    | false => exact ok.nx _ _ _ _ (q.2 rfl) E1
theorem w1_par3 (i j l : Nat) {kt k2 : Nat} {pt pt2 : Pos} (h : WV S a ρ fun t ρ1 => WV S b ρ1 fun u ρ2 => WV S c ρ2 fun u' ρ3 => R (.nx (((ρ3.set l (some u')).set j (some u)).set i (some t)))) (o : Own1 S i x) (o' : Own1 S j y) (o2 : Own1 S l z) (hij : i ≠ j) (hil : i ≠ l) (hjl : j ≠ l)
    (hl : S.sc.names.lookup x = some .local) (hl' : S.sc.names.lookup y = some .local) (hl2 : S.sc.names.lookup z = some .local)
    (hw : ∀ env : Env, env.scope = S.sc → swappedStores [.Tuple [.Name x px, .Name y py, .Name z pz] kt pt] (.Tuple [a, b, c] k2 pt2) env = pure (some [x, y, z]))
    (hs : ∀ env, swapsWithSole [.Tuple [.Name x px, .Name y py, .Name z pz] kt pt] (.Tuple [a, b, c] k2 pt2) pos.line env = pure false) (he : NoStar [a, b, c]) :
    W1 S (.Assign [.Tuple [.Name x px, .Name y py, .Name z pz] kt pt] (.Tuple [a, b, c] k2 pt2) pos) ρ R := by
  intro X B sd σ τ G H E D ok
  have f := sd.fit
  refine Tee.W1.by (ps_par3 (i := i) (j := j) (l := l) f.calm f.nd (by rw [f.N]; exact o.1) (by rw [f.N]; exact o'.1) (by rw [f.N]; exact o2.1) hij hil hjl (by rw [f.sc]; exact hl) (by rw [f.sc]; exact hl') (by rw [f.sc]; exact hl2) (pa_cons pe_U (pa_cons pe_U (pa_cons pe_U pa_nil (he.2.2.1 _)) (he.2.1 _)) (he.1 _)) (hw _ f.sc) (hs _)) ?_
  refine h X B sd σ τ G H E _ fun t ρ1 v G1 H1 hb E1 => hb X B sd σ _ G1 H1 E1 _ fun u ρ2 w G2 H2 hc E2 => hc X B sd σ _ G2 H2 E2 _ fun u' ρ3 w' G3 H3 q E3 => ⟨v, w, w', rfl, ?_⟩
  refine ok.nx _ _ G3 _ q ?_
  have E4 := ((E3.put (i := l) (sd.off o2.2.2.2)).put (i := j) (sd.off o'.2.2.2)).put (i := i) (sd.off o.2.2.2)
  have e : ((σ.set i (some v)).set j (some w)).set l (some w') = ((σ.set l (some w')).set j (some w)).set i (some v) := by
    rw [List.set_comm _ _ hij, List.set_comm _ _ hil, List.set_comm _ _ hjl]
  rw [e]
  exact E4
theorem wv_count {pa pc : Pos} (h : WO S a ρ fun oa ρ1 => (∃ ds, oa.view ρ1 = some (.list ds)) ∧ WO S b ρ1 fun ob ρ2 => ∃ (ns : List Int) (k : Int), oa.view ρ2 = some (.list (ns.map .int)) ∧ ob.view ρ2 = some (.int k) ∧ Q (.sh (.int (ns.count k : Nat))) ρ2)
    (he : NoStar [b])
    (hfew : ∀ env, ((backTo pc (starEach [b] env)).all (fun x => !x.1) && (backToKw pc (keywordEach [] env)).all (fun x => x.1.isSome)
      && decide ([b].length + ([] : List Keyword).length + (if ([] : List Keyword).isEmpty then 0 else 1) < 30)) = true)
    (hbase : ∀ env, attributeBase a "count" env (eval a env) = eval a env) (hline : (pa.endLine == pc.line) = true) :
    WV S (.Call (.Attribute a "count" pa) [b] [] pc) ρ Q := by
  intro X B st σ τ G H E QV kq
  refine Tee.WE.by (pe_bm PySem.F.plainAttrs_list PySem.F.slot_list_count PySem.F.type_list_count mt_lcount pe_U (pa_cons pe_U pa_nil (he.1 _)) (hbase _) (hfew _) hline (he.1 _) (by rfl)) ?_
  refine h X B st σ τ G H E _ fun oa ρ1 v G1 H1 q E1 ok1 => ?_
  obtain ⟨⟨ds, e1⟩, q⟩ := q
  have dd := Opd.dd E1 ok1 e1
  cases dd with
  | @lst l vs _ h1 r =>
    refine ⟨.inl ⟨rfl, _, SqL.of h1⟩, q X B st σ _ G1 H1 E1 _ fun ob ρ2 u G2 H2 q E2 ok2 => ?_⟩
    obtain ⟨ns, k, e2, e3, q⟩ := q
    have Ea := Opd.drop E2
    have d2 := Opd.dd Ea ok1 e2
    cases d2 with
    | @lst l vs _ h2 r2 =>
      have ev := Tee.DdAll.intsV ns r2
      subst ev
      exact ⟨l, ns, k, rfl, by rw [(Opd.dd E2 ok2 e3).intV], SqL.of h2, kq _ _ _ _ _ q ((Opd.drop Ea).int _)⟩
theorem wv_index {pa pc : Pos} (h : WO S a ρ fun oa ρ1 => (∃ ds, oa.view ρ1 = some (.list ds)) ∧ WO S b ρ1 fun ob ρ2 => ∃ (ns : List Int) (n : Int) (j : Nat), oa.view ρ2 = some (.list (ns.map .int)) ∧ ob.view ρ2 = some (.int n) ∧ ns[j]? = some n ∧ (∀ m z, m < j → ns[m]? = some z → z ≠ n) ∧ Q (.sh (.int (j : Nat))) ρ2)
    (he : NoStar [b])
    (hfew : ∀ env, ((backTo pc (starEach [b] env)).all (fun x => !x.1) && (backToKw pc (keywordEach [] env)).all (fun x => x.1.isSome)
      && decide ([b].length + ([] : List Keyword).length + (if ([] : List Keyword).isEmpty then 0 else 1) < 30)) = true)
    (hbase : ∀ env, attributeBase a "index" env (eval a env) = eval a env) (hline : (pa.endLine == pc.line) = true) :
    WV S (.Call (.Attribute a "index" pa) [b] [] pc) ρ Q := by
  intro X B st σ τ G H E QV kq
  refine Tee.WE.by (pe_bm PySem.F.plainAttrs_list PySem.F.slot_list_index PySem.F.type_list_index mt_index pe_U (pa_cons pe_U pa_nil (he.1 _)) (hbase _) (hfew _) hline (he.1 _) (by rfl)) ?_
  refine h X B st σ τ G H E _ fun oa ρ1 v G1 H1 q E1 ok1 => ?_
  obtain ⟨⟨ds, e1⟩, q⟩ := q
  have dd := Opd.dd E1 ok1 e1
  cases dd with
  | @lst l vs _ h1 r =>
    refine ⟨.inl ⟨rfl, _, SqL.of h1⟩, q X B st σ _ G1 H1 E1 _ fun ob ρ2 u G2 H2 q E2 ok2 => ?_⟩
    obtain ⟨ns, n, j, e2, e3, hj, hno, q⟩ := q
    have Ea := Opd.drop E2
    have d2 := Opd.dd Ea ok1 e2
    have eu := (Opd.dd E2 ok2 e3).intV
    subst eu
    cases d2 with
    | @lst l vs _ h2 r2 =>
      have ev := Tee.DdAll.intsV ns r2
      subst ev
      refine ⟨l, _, .int n, j, .int n, rfl, rfl, SqL.of h2, rfl, ?_, ?_, ?_, fun m z hm hz => ?_, kq _ _ _ _ _ q ((Opd.drop Ea).int _)⟩
      · rw [List.all_map, List.all_eq_true]; intro z _; rfl
      · rw [List.getElem?_map, hj]; rfl
      · show (n == n) = true; exact beq_self_eq_true n
      · rw [List.getElem?_map] at hz
        cases hz2 : ns[m]? with
        | none => rw [hz2] at hz; cases hz
        | some z2 =>
          rw [hz2] at hz
          cases hz
          show (z2 == n) = false
          exact beq_eq_false_iff_ne.mpr (hno m z2 hm hz2)
end
end Oak
namespace Oak
open PySem PySem.Spec PyProof.Rows L2
open Tee (Dd DdAll ScrL SysAt tU tUT tUW tUS tU1 tUG pe_U pt_U pw_U pss_U ps_U pg_U Wd Od KD Stp)
def steps (i c : Int) (n : Nat) : List PyData := (List.range n).map fun k => .int (i + (k : Nat) * c)
theorem steps_len (i c : Int) (n : Nat) : (steps i c n).length = n := by unfold steps; rw [List.length_map, List.length_range]
theorem steps_get {i c : Int} {n k : Nat} (h : k < n) : (steps i c n)[k]? = some (.int (i + (k : Nat) * c)) := by
  unfold steps
  rw [List.getElem?_map, List.getElem?_range h]
  rfl
section
variable {S : Sta} {ρ : Rho} {R : Out → Prop} {Q : T → Rho → Prop} {a b c e tg : Expr} {x y z : Str} {p px py pz pos : Pos}
theorem wi_range2 {Qd : List PyData → Rho → Prop} (h : WL S [a, b] ρ fun ts ρ1 => ∃ i j : Int, ts = [.sh (.int i), .sh (.int j)] ∧ (-(2 ^ 62) ≤ i ∧ i < 2 ^ 62 ∧ -(2 ^ 62) ≤ j ∧ j < 2 ^ 62) ∧ Qd (steps i 1 (j - i).toNat) ρ1) (hm : S.mg "range" = none) (hg : S.sc.names.lookup ("range" : Str) = some .globalImplicit)
    (ha : NoSt a) (hb : NoSt b) : WI S tg (.Call (.Name "range" p) [a, b] [] pos) ρ Qd := by
  intro X B st σ τ G H E
  have f := st.fit
  obtain ⟨t, pt, ht⟩ := h X B st σ τ G H E
  refine ⟨_, pi_range2 (glob_of f hg) (by rw [f.mg]; exact hm) pt (by rw [ha, hb]; rfl) (by rw [hb]; rfl), fun RV k => ht _ fun ts ρ1 vs G1 H1 ⟨i, j, e, bd, q⟩ hl E1 => ?_⟩
  subst e
  match vs, hl with
  | [v1, v2], _ =>
    have e1 := E1.dd.intV
    have e2 := E1.dropT.dd.intV
    subst e1 e2
    refine ⟨i, j, rfl, bd, k _ _ ρ1 G1 H1 q E1.dropT.dropT fun G' R' H' sg w m => ⟨fun hi => ?_, fun hi => ?_⟩⟩
    · rw [steps_len] at hi
      refine ⟨hi, fun x H'' ⟨e1, e2⟩ => ?_⟩
      subst e1
      subst e2
      refine ⟨G', _, Stp.refl w, steps_get hi, ?_⟩
      rw [Int.mul_one]
      exact .int _
    · rw [steps_len] at hi
      exact hi
theorem wi_range3 {Qd : List PyData → Rho → Prop} (h : WL S [a, b, c] ρ fun ts ρ1 => ∃ (i j d : Int) (n : Nat), ts = [.sh (.int i), .sh (.int j), .sh (.int d)] ∧ RgC i j d n ∧ Qd (steps i d n) ρ1) (hm : S.mg "range" = none) (hg : S.sc.names.lookup ("range" : Str) = some .globalImplicit)
    (ha : NoSt a) (hb : NoSt b) (hc : NoSt c) : WI S tg (.Call (.Name "range" p) [a, b, c] [] pos) ρ Qd := by
  intro X B st σ τ G H E
  have f := st.fit
  obtain ⟨t, pt, ht⟩ := h X B st σ τ G H E
  refine ⟨_, pi_range3 (glob_of f hg) (by rw [f.mg]; exact hm) pt (ha _ _) (by rw [hb, hc]; rfl), fun RV k => ht _ fun ts ρ1 vs G1 H1 ⟨i, j, d, n, e, bd, q⟩ hl E1 => ?_⟩
  subst e
  match vs, hl with
  | [v1, v2, v3], _ =>
    have e1 := E1.dd.intV
    have e2 := E1.dropT.dd.intV
    have e3 := E1.dropT.dropT.dd.intV
    subst e1 e2 e3
    refine ⟨i, j, d, n, rfl, bd, k _ _ ρ1 G1 H1 q E1.dropT.dropT.dropT fun G' R' H' sg w m => ⟨fun hi => ?_, fun hi => ?_⟩⟩
    · rw [steps_len] at hi
      refine ⟨hi, fun x H'' ⟨e1, e2⟩ => ?_⟩
      subst e1
      subst e2
      exact ⟨G', _, Stp.refl w, steps_get hi, .int _⟩
    · rw [steps_len] at hi
      exact hi
theorem EnvR.extL {K : PySem.W.Frag} {B : Base} {σ : L2.St} {τ : List Cell} {rs : List Addr} {G H : Hp} {w : V} {ts : List T} {zs : List V} {ds : List PyData} (E : EnvR K B ρ σ ((.lst ts, w) :: τ) rs G H) (r : DdAll G zs ds) :
    ∃ l vs, w = .ref l ∧ H l = some (.lst vs) ∧ ts.length = vs.length ∧ EnvR K B ρ σ ((.lst (ts ++ ds.map .sh), w) :: τ) rs G (upd H l (.lst (vs ++ zs))) := by
  obtain ⟨l, vs, e, h1, hl, hr, E2⟩ := E.openL
  subst e
  refine ⟨l, vs, rfl, h1, hl, ?_⟩
  have E3 := E2.addAll r
  have E4 : EnvR K B ρ σ ((ts ++ ds.map T.sh).zip (vs ++ zs) ++ τ) (l :: rs) G H := by
    rw [List.zip_append hl]
    refine E3.permT ?_
    rw [← List.append_assoc]
    exact List.perm_append_comm.append_right τ
  exact (E4.write (o := .lst (vs ++ zs)) (by simp)).closeL (by rw [List.length_append, List.length_append, hl, List.length_map, Tee.DdAll.len r]) hr upd_same
theorem w1_extend (i : Nat) {pa pc : Pos} (h : WV S e ρ fun t ρ1 => ∃ ts ds, ρ1[i]? = some (some (.lst ts)) ∧ toD t = some (.list ds) ∧ ts.length + ds.length ≤ sizeLine ∧ R (.nx (ρ1.set i (some (.lst (ts ++ ds.map .sh)))))) {t0 : T} (h0 : ρ[i]? = some (some t0)) (hl0 : ∃ ts, t0 = .lst ts)
    (hN : S.N[i]? = some x) (hv : Vis S.sc x) (hd : (x == ("__debug__" : Str)) = false) (hcd : (x == ("__classdict__" : Str)) = false) (he : NoStar [e])
    (hfew : ∀ env, ((backTo pc (starEach [e] env)).all (fun x => !x.1) && (backToKw pc (keywordEach [] env)).all (fun x => x.1.isSome)
      && decide ([e].length + ([] : List Keyword).length + (if ([] : List Keyword).isEmpty then 0 else 1) < 30)) = true)
    (hbase : ∀ env, attributeBase (.Name x px) "extend" env (eval (.Name x px) env) = eval (.Name x px) env) (hline : (pa.endLine == pc.line) = true)
    (hsw : ∀ env, swapsWith (.Call (.Attribute (.Name x px) "extend" pa) [e] [] pc) none pos.line env = pure false) :
    W1 S (.Expr (.Call (.Attribute (.Name x px) "extend" pa) [e] [] pc) pos) ρ R := by
  intro X B sd σ τ G H E D ok
  have f := sd.fit
  refine Tee.W1.by (ps_expr (pe_bm PySem.F.plainAttrs_list PySem.F.slot_list_extend PySem.F.type_list_extend mt_extend (std_var f hN hv hd hcd) (pa_cons pe_U pa_nil (he.1 _)) (hbase _) (hfew _) hline (he.1 _) (by rfl)) (hsw _)) ?_
  obtain ⟨ts0, rfl⟩ := hl0
  obtain ⟨v0, hs0, E0⟩ := E.take h0
  obtain ⟨l0, vs0, rfl, hh0, _⟩ := E0.openL
  refine ⟨.ref l0, hs0, .inl ⟨rfl, _, SqL.of hh0⟩, h X B sd σ τ G H E _ fun t ρ1 v G1 H1 q E1 => ?_⟩
  obtain ⟨ts, ds, hr, htd, hz, r⟩ := q
  obtain ⟨G2, sg, E2⟩ := E1.freeze htd
  have dd := E2.dd
  cases dd with
  | @lst b zs _ hb rz =>
    obtain ⟨v1, hs1, E3⟩ := E2.dropT.take hr
    rw [hs0] at hs1
    cases hs1
    obtain ⟨l, vs, e1, h1, hl, E4⟩ := E3.extL rz
    cases e1
    have E5 := EnvR.back E4 hs0
    rw [List.set_set] at E5
    exact ⟨l0, b, vs, zs, rfl, rfl, h1, E2.sm _ _ hb, by rw [← hl, Tee.DdAll.len rz]; exact hz, ok.nx _ _ _ _ r E5⟩
theorem EnvR.popL {K : PySem.W.Frag} {B : Base} {σ : L2.St} {τ : List Cell} {rs : List Addr} {G H : Hp} {w : V} {ts : List T} {t : T} (E : EnvR K B ρ σ ((.lst (ts ++ [t]), w) :: τ) rs G H) :
    ∃ l vs u, w = .ref l ∧ H l = some (.lst (vs ++ [u])) ∧ ts.length = vs.length ∧ EnvR K B ρ σ ((.lst ts, w) :: (t, u) :: τ) rs G (upd H l (.lst vs)) := by
  obtain ⟨l, vs0, e, h1, hl, hr, E2⟩ := E.openL
  subst e
  have hne : vs0 ≠ [] := fun z => by rw [z] at hl; simp at hl
  obtain ⟨vs, u, rfl⟩ : ∃ vs u, vs0 = vs ++ [u] := ⟨_, _, (List.dropLast_concat_getLast hne).symm⟩
  have hl' : ts.length = vs.length := by simpa using hl
  refine ⟨l, vs, u, rfl, h1, hl', ?_⟩
  have E3 : EnvR K B ρ σ (ts.zip vs ++ ((t, u) :: τ)) (l :: rs) G H := by
    rw [List.zip_append hl'] at E2
    rw [List.append_assoc] at E2
    exact E2
  exact (E3.write (o := .lst vs) (by simp)).closeL hl' hr upd_same
theorem wv_pop (i : Nat) {pa pc : Pos} {ts : List T} {t : T} (h0 : ρ[i]? = some (some (.lst (ts ++ [t])))) (q : Q t (ρ.set i (some (.lst ts))))
    (hN : S.N[i]? = some x) (hv : Vis S.sc x) (hd : (x == ("__debug__" : Str)) = false) (hcd : (x == ("__classdict__" : Str)) = false)
    (hbase : ∀ env, attributeBase (.Name x px) "pop" env (eval (.Name x px) env) = eval (.Name x px) env) (hline : (pa.endLine == pc.line) = true) :
    WV S (.Call (.Attribute (.Name x px) "pop" pa) [] [] pc) ρ Q := by
  intro X B sd σ τ G H E QV kq
  have f := sd.fit
  refine Tee.WE.by (pe_bm0 PySem.F.plainAttrs_list PySem.F.slot_list_pop PySem.F.type_list_pop mt_pop (std_var f hN hv hd hcd) (hbase _) hline) ?_
  obtain ⟨v0, hs0, E0⟩ := E.take h0
  obtain ⟨l, vs, u, rfl, h1, hl, E2⟩ := E0.popL
  have E3 := EnvR.back E2 hs0
  rw [List.set_set] at E3
  refine ⟨.ref l, hs0, .inl ⟨rfl, _, SqL.of h1⟩, l, vs ++ [u], u, rfl, rfl, h1, by simp, ?_⟩
  rw [List.dropLast_concat]
  exact kq _ _ _ _ _ q E3
theorem wv_divmod (h : WO S a ρ fun oa ρ1 => WO S b ρ1 fun ob ρ2 => ∃ i j, oa.view ρ2 = some (.int i) ∧ ob.view ρ2 = some (.int j) ∧ CDiv i j ∧ Q (.tup [.sh (.int (i / j)), .sh (.int (i % j))]) ρ2) (hm : S.mg "divmod" = none) (hg : S.sc.names.lookup ("divmod" : Str) = some .globalImplicit) (ha : NoSt a) (hb : NoSt b) :
    WV S (.Call (.Name "divmod" p) [a, b] [] pos) ρ Q := by
  intro X B st σ τ G H E QV kq
  have f := st.fit
  refine Tee.WE.by (pe_callB call_divmod (glob_of f hg) (by rw [f.mg]; exact hm) (by exact boot_divmod) (pa_cons pe_U (pa_cons pe_U pa_nil (hb _ _)) (ha _ _)) (by decide) (by decide) (ha _ _) (by rw [hb]; rfl)) ?_
  refine two (Z := fun v u H2 => ∃ i j, [v, u] = [.int i, .int j] ∧ CDiv i j ∧ ∀ p, H2 p = none → QV (.ref p) (upd H2 p (.tup [.int (i / j), .int (i % j)]))) st E h fun oa ob ρ2 v u G2 H2 q E2 ok1 ok2 => ?_
  obtain ⟨i, j, e1, e2, hc, q⟩ := q
  have Ea := Opd.drop E2
  refine ⟨i, j, by rw [(Opd.dd Ea ok1 e1).intV, (Opd.dd E2 ok2 e2).intV], hc, fun tp hp => kq _ _ _ G2 _ q ?_⟩
  exact (Opd.drop Ea).newTup (ds := [.int (i / j), .int (i % j)]) (.cons (.int _) (.cons (.int _) .nil)) hp
end
end Oak
namespace Oak
open PySem PySem.Spec PyProof.Rows L2
open Tee (Dd DdAll ScrL SysAt tU tUT tUW tUS tU1 tUG pe_U pt_U pw_U pss_U ps_U pg_U Wd Od KD Stp)
def kix : List Int → Int → Option Nat
  | [], _ => none
  | a :: r, k => if a = k then some 0 else (kix r k).map (· + 1)
abbrev kys (kx : List Int) : List Key := kx.map Sum.inl
theorem kix_val {k : Int} : ∀ {kx : List Int} {vs : List V} {j : Nat}, kix kx k = some j → kx.length = vs.length → valV ((kys kx).zip vs) (.inl k) = vs[j]?
  | [], _, _, h, _ => by cases h
  | a :: r, [], _, _, h => by cases h
  | a :: r, v :: vs, j, h, hl => by
    unfold kix at h
    by_cases e : a = k
    · rw [if_pos e] at h
      cases h
      subst e
      simp [valV, kys, List.find?_cons]
    · rw [if_neg e] at h
      cases h1 : kix r k with
      | none => rw [h1] at h; cases h
      | some j' =>
        rw [h1] at h
        cases h
        have ih := kix_val (vs := vs) h1 (Nat.succ.inj hl)
        have e' : ¬ (Sum.inl a : Key) = Sum.inl k := fun z => e (Sum.inl.inj z)
        show ((((Sum.inl a : Key), v) :: (kys r).zip vs).find? fun kv => decide (kv.1 = Sum.inl k)).map (·.2) = _
        rw [List.find?_cons, decide_eq_false (p := (Sum.inl a : Key) = Sum.inl k) e']
        exact ih
theorem kix_lt {k : Int} : ∀ {kx : List Int} {j : Nat}, kix kx k = some j → j < kx.length
  | [], _, h => by cases h
  | a :: r, j, h => by
    unfold kix at h
    split at h
    · cases h; simp
    · cases h1 : kix r k with
      | none => rw [h1] at h; cases h
      | some j' =>
        rw [h1] at h
        cases h
        have := kix_lt h1
        simp only [List.length_cons]
        omega
theorem kix_any {k : Int} : ∀ {kx : List Int} {vs : List V} {j : Nat}, kix kx k = some j → kx.length = vs.length → (((kys kx).zip vs).any fun kv => decide (kv.1 = (Sum.inl k : Key))) = true
  | [], _, _, h, _ => by cases h
  | a :: r, [], _, _, h => by cases h
  | a :: r, v :: vs, j, h, hl => by
    unfold kix at h
    show ((((Sum.inl a : Key), v) :: (kys r).zip vs).any fun kv => decide (kv.1 = Sum.inl k)) = true
    rw [List.any_cons]
    by_cases e : a = k
    · subst e; simp
    · rw [if_neg e] at h
      cases h1 : kix r k with
      | none => rw [h1] at h; cases h
      | some j' => rw [kix_any h1 (Nat.succ.inj hl), Bool.or_true]
theorem kys_out {k : Int} {v : V} : ∀ {kx : List Int} {vs : List V}, k ∉ kx → ((kys kx).zip vs).map (fun kv => if kv.1 = (Sum.inl k : Key) then (kv.1, v) else kv) = (kys kx).zip vs
  | [], _, _ => by simp
  | a :: r, [], _ => by simp
  | a :: r, u :: vs, h => by
    have e' : ¬ (Sum.inl a : Key) = Sum.inl k := fun z => h (by rw [Sum.inl.inj z]; exact List.mem_cons_self)
    show (((Sum.inl a : Key), u) :: (kys r).zip vs).map _ = ((Sum.inl a : Key), u) :: (kys r).zip vs
    rw [List.map_cons, if_neg e', kys_out fun z => h (List.mem_cons_of_mem _ z)]
theorem kix_map {k : Int} {v : V} : ∀ {kx : List Int} {vs : List V} {j : Nat}, kx.Nodup → kix kx k = some j → kx.length = vs.length → ((kys kx).zip vs).map (fun kv => if kv.1 = (Sum.inl k : Key) then (kv.1, v) else kv) = (kys kx).zip (vs.set j v)
  | [], _, _, _, h, _ => by cases h
  | a :: r, [], _, _, _, h => by cases h
  | a :: r, u :: vs, j, nd, h, hl => by
    unfold kix at h
    rw [List.nodup_cons] at nd
    show (((Sum.inl a : Key), u) :: (kys r).zip vs).map _ = _
    rw [List.map_cons]
    by_cases e : a = k
    · rw [if_pos e] at h
      cases h
      subst e
      rw [if_pos rfl, kys_out nd.1]
      rfl
    · rw [if_neg e] at h
      have e' : ¬ (Sum.inl a : Key) = Sum.inl k := fun z => e (Sum.inl.inj z)
      cases h1 : kix r k with
      | none => rw [h1] at h; cases h
      | some j' =>
        rw [h1] at h
        cases h
        rw [if_neg e', kix_map nd.2 h1 (Nat.succ.inj hl)]
        rfl
theorem kix_put {k : Int} {v : V} {kx : List Int} {vs : List V} {j : Nat} (nd : kx.Nodup) (h : kix kx k = some j) (hl : kx.length = vs.length) : putK ((kys kx).zip vs) (.inl k) v = (kys kx).zip (vs.set j v) := by
  unfold putK
  rw [if_pos (kix_any h hl)]
  exact kix_map nd h hl
section
variable {S : Sta} {ρ : Rho} {R : Out → Prop} {Q : T → Rho → Prop} {a b c e tg : Expr} {x y z : Str} {p px py pz pos : Pos}
theorem units1 {X : Cx} (f : Fits S X) : X.A.units + 1 < cLine := Nat.lt_of_le_of_lt (by omega) f.room.units
def GetD (oa ob : Opd) (ρ : Rho) (Q : T → Rho → Prop) : Prop := ∃ kx ts k j d, oa.tree ρ = some (.dct (kys kx) ts) ∧ ob.view ρ = some (.int k) ∧ kix kx k = some j ∧ ts[j]? = some (.sh d) ∧ Q (.sh d) ρ
theorem wv_dget (h : WO S a ρ fun oa ρ1 => WO S b ρ1 fun ob ρ2 => GetD oa ob ρ2 Q) (hs : NoSl b) : WV S (.Subscript a b pos) ρ Q := by
  intro X B st σ τ G H E QV kq pins s I
  refine (pe_dget (units1 st.fit) pe_U pe_U hs).run pins s σ H QV I (h X B st σ τ G H E _ fun oa ρ1 v G1 H1 q E1 ok1 => q X B st σ _ G1 H1 E1 _ fun ob ρ2 u G2 H2 q E2 ok2 => ?_)
  obtain ⟨kx, ts, k, j, d, e1, e2, e3, e4, q⟩ := q
  have Ea := Opd.drop E2
  obtain ⟨f, ht, _⟩ := Opd.at Ea ok1 e1
  unfold qe0 at ht
  obtain ⟨l, vs, g, rfl, kl, h1, _, _, _, k5⟩ := ht
  obtain ⟨w, hw, dw⟩ := trees_get k5 e4
  have eu := (Opd.dd E2 ok2 e2).intV
  subst eu
  have kl' : kx.length = vs.length := by rw [← kl, List.length_map]
  refine ⟨l, w, rfl, ?_, kq _ _ _ _ _ q ((Opd.drop Ea).addSh dw)⟩
  have := DGet.k (k := (Sum.inl k : Key)) h1
  rw [kix_val e3 kl', hw] at this
  exact this
def cInt : Expr → Option Int
  | .Constant (.int i) _ _ => some i
  | .UnaryOp .USub (.Constant (.int i) _ _) _ => some (-i)
  | _ => none
theorem pe_cint {X : Cx} {k : Int} (h : cInt e = some k) : PE X e (tC (.int k)) := by
  unfold cInt at h
  split at h
  · cases h; exact pe_int
  · cases h
    exact ⟨fun pins s σ H Q I h => (pe_un un_neg pe_int).run pins s σ H Q I ⟨_, rfl, h⟩⟩
  · cases h
def cPairs : List (Option Expr) → List Expr → Option (List (Int × Int))
  | [], [] => some []
  | some k :: ks, v :: vs => match cInt k, cInt v, cPairs ks vs with
    | some a, some b, some r => some ((a, b) :: r)
    | _, _, _ => none
  | _, _ => none
theorem cPairs_all {X : Cx} {pos : Pos} : ∀ {ks : List (Option Expr)} {vs : List Expr} {kvs : List (Int × Int)}, cPairs ks vs = some kvs →
    PPs X pos ks vs (kvs.map fun p => (tC (.int p.1), tC (.int p.2))) ∧ ks.all (·.isSome) = true ∧ ks.length = vs.length ∧ ks.length = kvs.length
  | [], [], _, h => by cases h; exact ⟨pps_nil, rfl, rfl, rfl⟩
  | some k :: ks, v :: vs, _, h => by
    unfold cPairs at h
    split at h
    · rename_i hk hv hr
      cases h
      obtain ⟨q1, q2, q3, q4⟩ := cPairs_all hr
      exact ⟨pps_cons (pe_cint hk) (pe_cint hv) q1, by simpa using q2, by simpa using q3, by simpa using q4⟩
    · cases h
  | none :: ks, vs, _, h => by unfold cPairs at h; cases h
  | some k :: ks, [], _, h => by unfold cPairs at h; cases h
  | [], v :: vs, _, h => by unfold cPairs at h; cases h
theorem tPairs_c {σ : L2.St} {H : Hp} {Qp : List (V × V) → Hp → Prop} : ∀ {kvs : List (Int × Int)}, Qp (kvs.map fun p => (.int p.1, .int p.2)) H → tPairs (kvs.map fun p => (tC (.int p.1), tC (.int p.2))) σ H Qp
  | [], h => h
  | p :: r, h => by
    show tPairs (r.map _) σ H _
    exact tPairs_c (Qp := fun ps H3 => Qp ((.int p.1, .int p.2) :: ps) H3) h
theorem merge_new : ∀ {more acc : List (Key × V)}, ((acc ++ more).map (·.1)).Nodup → mergeK acc more = acc ++ more
  | [], acc, _ => by rw [List.append_nil]; rfl
  | p :: r, acc, nd => by
    have hp : (acc.any fun kv => decide (kv.1 = p.1)) = false := by
      rw [Bool.eq_false_iff]
      intro z
      obtain ⟨q, hq, eq⟩ := List.any_eq_true.mp z
      rw [List.map_append, List.nodup_append] at nd
      exact nd.2.2 _ (List.mem_map_of_mem hq) p.1 (by rw [List.map_cons]; exact List.mem_cons_self) (of_decide_eq_true eq)
    show mergeK (putK acc p.1 p.2) r = _
    have e : putK acc p.1 p.2 = acc ++ [p] := by
      unfold putK
      rw [hp]
      rfl
    rw [e, merge_new (by rw [List.append_assoc]; exact nd), List.append_assoc]
    rfl
theorem wv_dctC {keys : List (Option Expr)} {values : List Expr} {kvs : List (Int × Int)} (h : cPairs keys values = some kvs) (nd : (kvs.map (·.1)).Nodup) (h0 : kvs ≠ []) (h15 : kvs.length ≤ 15) (q : Q (.dct (kys (kvs.map (·.1))) (kvs.map fun p => .sh (.int p.2))) ρ) :
    WV S (.Dict keys values pos) ρ Q := by
  intro X B st σ τ G H E QV kq
  obtain ⟨q1, q2, q3, q4⟩ := cPairs_all (X := X) (pos := pos) h
  refine Tee.WE.by (pe_disp q1 q2 q3 (fun z => h0 (by rw [z] at q4; exact List.eq_nil_of_length_eq_zero q4.symm)) (by rw [q4]; exact h15)) fun p hp => tPairs_c ?_
  refine ⟨upd_same, kvs.map fun p => ((Sum.inl p.1 : Key), V.int p.2), by rw [List.map_map]; rfl, by rw [List.length_map]; exact h15, ?_⟩
  rw [upd_upd]
  have em : mergeK [] (kvs.map fun p => ((Sum.inl p.1 : Key), V.int p.2)) = (kys (kvs.map (·.1))).zip (kvs.map fun p => V.int p.2) := by
    rw [merge_new]
    · rw [List.nil_append]
      show _ = List.zip (List.map Sum.inl (kvs.map (·.1))) _
      rw [List.map_map]
      clear nd h0 h15 q h q1 q4
      induction kvs with
      | nil => rfl
      | cons p r ih => rw [List.map_cons, List.map_cons, List.map_cons, List.zip_cons_cons, ← ih]; rfl
    · rw [List.nil_append, List.map_map]
      have : (kvs.map ((fun (x : Key × V) => x.1) ∘ fun p => ((Sum.inl p.1 : Key), V.int p.2))) = (kvs.map (·.1)).map (Sum.inl : Int → Key) := by rw [List.map_map]; rfl
      rw [this]
      exact List.Pairwise.map _ (fun a b hab z => hab (Sum.inl.inj z)) nd
  rw [em]
  have d0 : DdAll G (kvs.map fun p => V.int p.2) (kvs.map fun p => PyData.int p.2) := by
    clear nd h0 h15 q h q1 q4 em
    induction kvs with
    | nil => exact .nil
    | cons p r ih => exact .cons (.int _) ih
  have E1 := E.addAll d0
  have e2 : (kvs.map fun p => PyData.int p.2).map T.sh = kvs.map fun p => T.sh (.int p.2) := by rw [List.map_map]; rfl
  rw [e2] at E1
  exact kq _ _ _ G _ q ((E1.fresh hp).closeD (by simp) (by simp) (by simp) upd_same)
theorem get_dict {X : Cx} (hu : X.A.units + 1 < cLine) : PGet X (fun x y H Q => ∃ l v, x = .ref l ∧ DGet H l y (some v) ∧ Q v H) := by
  intro pins s σ H o i ov iv Q I ro ri h
  obtain ⟨l, v, rfl, g, q⟩ := h
  cases ro
  exact d_getItem hu I g ri fun w' s3 I3 rw' => ⟨v, H, I3, rw', q⟩
theorem EnvR.setD {K : PySem.W.Frag} {B : Base} {σ : L2.St} {τ : List Cell} {rs : List Addr} {G H : Hp} {t : T} {v w : V} {kx : List Int} {ts : List T} {k : Int} {j : Nat} (E : EnvR K B ρ σ ((t, v) :: (.dct (kys kx) ts, w) :: τ) rs G H) (nd : kx.Nodup) (hk : kix kx k = some j) :
    ∃ l vs, w = .ref l ∧ H l = some (.dK ((kys kx).zip vs)) ∧ kx.length = vs.length ∧ EnvR K B ρ σ ((.dct (kys kx) (ts.set j t), w) :: τ) rs G (upd H l (.dK (putK ((kys kx).zip vs) (.inl k) v))) := by
  obtain ⟨l, vs, e, h1, kl, hl, hr, E2⟩ := (E.permT (List.Perm.swap _ _ _)).openD
  subst e
  have kl' : kx.length = vs.length := by rw [← kl, List.length_map]
  refine ⟨l, vs, rfl, h1, kl', ?_⟩
  rw [kix_put nd hk kl']
  have hj : j < ts.length := by rw [hl, ← kl']; exact kix_lt hk
  obtain ⟨y, hp⟩ := perm_set (xs := ts.zip vs) (i := j) (x := (t, v)) (by rw [List.length_zip, ← hl, Nat.min_self]; exact hj)
  have E3 : EnvR K B ρ σ ((ts.set j t).zip (vs.set j v) ++ τ) (l :: rs) G H := by
    rw [zip_set hl]
    exact (E2.permT (List.perm_middle.trans (hp.append_right τ))).dropT
  exact (E3.write (o := .dK ((kys kx).zip (vs.set j v))) (by simp)).closeD (by rw [List.length_set, kl]) (by rw [List.length_set, List.length_set, hl]) hr upd_same
theorem w1_augD (i : Nat) {ps' : Pos} {t1 : T} (hr0 : ρ[i]? = some (some t1)) (h : WO S b ρ fun ob ρ1 => ∃ k n kx ts j, ob.view ρ1 = some (.int k) ∧ ρ1[i]? = some (some (.dct (kys kx) ts)) ∧ kix kx k = some j ∧ ts[j]? = some (.sh (.int n)) ∧ WO S e ρ1 fun oe ρ2 => ∃ m kx2 ts2 j2, oe.view ρ2 = some (.int m) ∧ ρ2[i]? = some (some (.dct (kys kx2) ts2)) ∧ kx2.Nodup ∧ kix kx2 k = some j2 ∧ kx2.length < sizeLine ∧ R (.nx (ρ2.set i (some (.dct (kys kx2) (ts2.set j2 (.sh (.int (n + m)))))))))
    (hN : S.N[i]? = some x) (hv : Vis S.sc x) (hd : (x == ("__debug__" : Str)) = false) (hcd : (x == ("__classdict__" : Str)) = false)
    (ha : ∀ ov iv new, augStore b ov iv new = (do holding [new, ov, iv] (setItem ov iv new); release [new, ov, iv] []; pure .next)) :
    W1 S (.AugAssign (.Subscript (.Name x px) b ps') .Add e pos) ρ R := by
  intro X B sd σ τ G H E D ok
  have f := sd.fit
  refine Tee.W1.by (ps_augS (std_var f hN hv hd hcd) pe_U (get_dict (units1 f)) pe_U ip_add (set_dict (units1 f)) ha) ?_
  obtain ⟨w, hw⟩ := E.all i t1 hr0
  refine ⟨w, hw, h X B sd σ τ G H E _ fun ob ρ1 u G1 H1 q E1 ok1 => ?_⟩
  obtain ⟨k, n, kx, ts, j, e1, hr, hk, hj, q⟩ := q
  have ek := (Opd.dd E1 ok1 e1).intV
  have E1' := Opd.drop E1
  obtain ⟨f0, ht, _⟩ := Opd.at (o := .var i) (v := w) (t := .dct (kys kx) ts) E1' hw (by show (ρ1[i]?).join = _; rw [hr]; rfl)
  unfold qe0 at ht
  obtain ⟨l, vs, g, ew, kl, h1, _, _, _, k5⟩ := ht
  obtain ⟨z, hz, dz⟩ := trees_get k5 hj
  have ez := dz.intV
  subst ez
  have kl' : kx.length = vs.length := by rw [← kl, List.length_map]
  refine ⟨l, .int n, ew, ?_, q X B sd σ τ G1 H1 E1' _ fun oe ρ2 y G2 H2 q2 E2 ok2 => ?_⟩
  · have := DGet.k (k := (Sum.inl k : Key)) h1
    rw [kix_val hk kl', hz] at this
    rw [ek]
    exact this
  · obtain ⟨m, kx2, ts2, j2, e2, hr2, nd, hk2, hlen, r⟩ := q2
    have em := (Opd.dd E2 ok2 e2).intV
    obtain ⟨w', hw2, E3⟩ := (Opd.drop E2).take hr2
    rw [hw] at hw2
    cases hw2
    obtain ⟨l', vs', e3, h3, kl3, E5⟩ := (E3.int (n + m)).setD nd hk2
    have E6 := EnvR.back E5 hw
    rw [List.set_set] at E6
    refine ⟨n, m, rfl, em, l', _, e3, ?_, ok.nx _ _ _ _ r E6⟩
    rw [ek]
    exact DPut.k (k := (Sum.inl k : Key)) h3 (by rw [List.length_zip, List.length_map, ← kl3, Nat.min_self]; exact hlen)
theorem offS_l {L M : List Nat} {σ σ' : L2.St} (h : Tee.OffS L σ σ') : Tee.OffS (L ++ M) σ σ' := ⟨h.1, fun i hi => h.2 i fun z => hi (List.mem_append_left _ z)⟩
theorem offS_r {L M : List Nat} {σ σ' : L2.St} (h : Tee.OffS M σ σ') : Tee.OffS (L ++ M) σ σ' := ⟨h.1, fun i hi => h.2 i fun z => hi (List.mem_append_right _ z)⟩
theorem wtg_two {ta tb : Expr} {La Lb : List Nat} {kt : Nat} {d d1 d2 : PyData} {Kk : Rho → Prop} (hd : d = .tuple [d1, d2] ∨ d = .list [d1, d2]) (h : WTg S ta La ρ d1 fun ρ1 => WTg S tb Lb ρ1 d2 Kk) (sa : ∀ env, assignEach [ta, tb] env = [(false, assign ta env), (false, assign tb env)]) (sb : ∀ env, assignEach [tb] env = [(false, assign tb env)]) : WTg S (.Tuple [ta, tb] kt pos) (La ++ Lb) ρ d Kk := by
  intro X B st σ τ G H E v dd Qσ kq pins s u I r
  rcases hd with rfl | rfl
  · cases dd with
    | @tup l vs _ hh q =>
      obtain ⟨v1, v2, rfl, q1, q2⟩ := q.two
      exact (pg_tup (n := 2) st.fit.calm (pgs_cons pg_U (pgs_cons pg_U pgs_nil (by rw [sb]; rfl)) (by rw [sa, sb]; rfl)) (by rw [sa]; rfl) (by rw [sa]; rfl)).run pins s σ H _ u Qσ I r ⟨l, [v1, v2], rfl, SqT.of (E.sm _ _ hh), rfl, v1, [v2], rfl,
        h X B st σ τ G H E v1 q1 _ fun ρ1 σ1 k1 E1 o1 => ⟨v2, [], rfl, k1 X B st σ1 τ G H E1 v2 q2 _ fun ρ2 σ2 k2 E2 o2 => ⟨rfl, kq _ _ k2 E2 ((offS_l o1).trans (offS_r o2))⟩⟩⟩
  · cases dd with
    | @lst l vs _ hh q =>
      obtain ⟨v1, v2, rfl, q1, q2⟩ := q.two
      exact (pg_unl (n := 2) st.fit.calm (pgs_cons pg_U (pgs_cons pg_U pgs_nil (by rw [sb]; rfl)) (by rw [sa, sb]; rfl)) (by rw [sa]; rfl) (by rw [sa]; rfl)).run pins s σ H _ u Qσ I r ⟨l, [v1, v2], rfl, SqL.of (E.sm _ _ hh), rfl, v1, [v2], rfl,
        h X B st σ τ G H E v1 q1 _ fun ρ1 σ1 k1 E1 o1 => ⟨v2, [], rfl, k1 X B st σ1 τ G H E1 v2 q2 _ fun ρ2 σ2 k2 E2 o2 => ⟨rfl, kq _ _ k2 E2 ((offS_l o1).trans (offS_r o2))⟩⟩⟩
theorem rg_steps (G : Hp) (i j : Int) : DdAll G (rgV i j) (steps i 1 (j - i).toNat) := by
  have e : rgV i j = ((List.range (j - i).toNat).map fun k => (i + (k : Nat) * 1 : Int)).map V.int := by
    unfold rgV
    rw [List.map_map]
    refine List.map_congr_left fun k _ => ?_
    show V.int (i + (k : Nat)) = V.int (i + (k : Nat) * 1)
    rw [Int.mul_one]
  have e2 : steps i 1 (j - i).toNat = ((List.range (j - i).toNat).map fun k => (i + (k : Nat) * 1 : Int)).map PyData.int := by
    unfold steps
    rw [List.map_map]
    rfl
  rw [e, e2]
  exact Tee.DdAll.ints _
theorem wv_listRange1 {p2 pos2 : Pos} (h : WO S a ρ fun o ρ1 => ∃ j : Int, o.view ρ1 = some (.int j) ∧ RgOk 0 j ∧ Q (.lst ((steps 0 1 j.toNat).map .sh)) ρ1) (hm : S.mg "list" = none) (hm2 : S.mg "range" = none) (hg : S.sc.names.lookup ("list" : Str) = some .globalImplicit) (hg2 : S.sc.names.lookup ("range" : Str) = some .globalImplicit) (ha : NoSt a) :
    WV S (.Call (.Name "list" p) [.Call (.Name "range" p2) [a] [] pos2] [] pos) ρ Q := by
  intro X B st σ τ G H E QV kq
  have f := st.fit
  refine Tee.WE.by (pe_listRg f.calm (glob_of f hg) (by rw [f.mg]; exact hm) (prg_1 (glob_of f hg2) (by rw [f.mg]; exact hm2) pe_U (ha _ _)) rfl) ?_
  refine h X B st σ τ G H E _ fun o ρ1 v G1 H1 q E1 ok => ?_
  obtain ⟨j, e1, bd, q⟩ := q
  refine ⟨j, (Opd.dd E1 ok e1).intV, bd, fun p hp => kq _ _ _ G1 _ q ?_⟩
  have := rg_steps G1 0 j
  rw [Int.sub_zero] at this
  exact (Opd.drop E1).newOwn this hp
theorem wv_listRange2 {p2 pos2 : Pos} (h : WO S a ρ fun oa ρ1 => WO S b ρ1 fun ob ρ2 => ∃ i j : Int, oa.view ρ2 = some (.int i) ∧ ob.view ρ2 = some (.int j) ∧ RgOk i j ∧ Q (.lst ((steps i 1 (j - i).toNat).map .sh)) ρ2) (hm : S.mg "list" = none) (hm2 : S.mg "range" = none) (hg : S.sc.names.lookup ("list" : Str) = some .globalImplicit) (hg2 : S.sc.names.lookup ("range" : Str) = some .globalImplicit) (ha : NoSt a) (hb : NoSt b) :
    WV S (.Call (.Name "list" p) [.Call (.Name "range" p2) [a, b] [] pos2] [] pos) ρ Q := by
  intro X B st σ τ G H E QV kq
  have f := st.fit
  refine Tee.WE.by (pe_listRg f.calm (glob_of f hg) (by rw [f.mg]; exact hm) (prg_2 (glob_of f hg2) (by rw [f.mg]; exact hm2) pe_U pe_U (ha _ _) (hb _ _) (by rw [hb]; rfl)) rfl) ?_
  refine two (Z := fun v u H2 => ∃ i j, v = .int i ∧ u = .int j ∧ RgOk i j ∧ ∀ p, H2 p = none → QV (.ref p) (upd H2 p (.lst (rgV i j)))) st E h fun oa ob ρ2 v u G2 H2 q E2 ok1 ok2 => ?_
  obtain ⟨i, j, e1, e2, bd, q⟩ := q
  have Ea := Opd.drop E2
  exact ⟨i, j, (Opd.dd Ea ok1 e1).intV, (Opd.dd E2 ok2 e2).intV, bd, fun p hp => kq _ _ _ G2 _ q ((Opd.drop Ea).newOwn (rg_steps G2 i j) hp)⟩
end
end Oak
namespace Oak
open PySem PySem.Spec PyProof.Rows L2
open Tee (Dd DdAll ScrL SysAt tU tUT tUW tUS tU1 tUG pe_U pt_U pw_U pss_U ps_U pg_U Wd Od KD Stp)
def iSeq (K : PySem.W.Frag) (tl : TE) : TI := fun σ H R => tl σ H fun x H1 =>
  (∃ a, x = .ref a ∧ (∃ xs, SqL K H1 a xs) ∧ R (Itl K a) H1) ∨ ∃ a, x = .ref a ∧ (∃ xs, SqT K H1 a xs) ∧ R (Itt K a) H1
theorem pi_seq {X : Cx} {tg l : Expr} {tl : TE} (hl : PE X l tl) : PI X tg l (iSeq X.K tl) := by
  constructor
  intro pins s σ H R I h
  refine thn (hl.run pins s σ H _ I h) ?_
  rintro v s1 ⟨x, H1, I1, r1, q1⟩
  rcases q1 with ⟨a, rfl, ⟨xs, hq⟩, q⟩ | ⟨a, rfl, ⟨xs, hq⟩, q⟩
  · cases r1
    obtain ⟨its, rv, p, hz⟩ := I1.list hq
    refine wpAny_pyIter_list p.isList ?_
    refine ⟨_, [_], _, _, H1, rfl, ?_, turn_list a _, ?_, ?_, q⟩
    · exact I1.kept (t' := s1.toks) fun b o => Heap.get?_push_of_some _
    · exact ⟨_, Heap.get?_push_size _ rfl, rfl, rfl⟩
    · intro b hb
      rw [List.mem_singleton.mp hb]
      exact I1.fpOk (Nat.le_refl _) (I1.hok.fresh (Nat.le_refl _))
  · cases r1
    obtain ⟨its, rv, p, hz⟩ := I1.tuple hq
    have p' : s1.heap.IsTuple a its.toArray := p
    refine wpAny_pyIter_tuple p' ?_
    refine ⟨_, [_], _, _, H1, rfl, ?_, turn_tuple a _, ?_, ?_, q⟩
    · exact I1.kept (t' := s1.toks) fun b o => Heap.get?_push_of_some _
    · exact ⟨_, Heap.get?_push_size _ rfl, rfl, rfl⟩
    · intro b hb
      rw [List.mem_singleton.mp hb]
      exact I1.fpOk (Nat.le_refl _) (I1.hok.fresh (Nat.le_refl _))
section
variable {S : Sta} {ρ : Rho} {iter tg : Expr}
theorem wi_seq {Q : List PyData → Rho → Prop} (h : WV S iter ρ fun t ρ1 => ∃ ds, (toD t = some (.list ds) ∨ toD t = some (.tuple ds)) ∧ Q ds ρ1) : WI S tg iter ρ Q := by
  intro X B st σ τ G H E
  refine ⟨_, pi_seq pe_U, fun RV k => h X B st σ τ G H E _ fun t ρ1 v G1 H1 ⟨ds, e, q⟩ E1 => ?_⟩
  rcases e with e | e
  · obtain ⟨G2, sg, E2⟩ := E1.freeze e
    have dd := E2.dd
    cases dd with
    | @lst l vs _ hl r => exact .inl ⟨l, rfl, ⟨vs, SqL.of (E2.sm _ _ hl)⟩, k ds _ ρ1 G2 H1 q E2.dropT (good_list hl r)⟩
  · obtain ⟨G2, sg, E2⟩ := E1.freeze e
    have dd := E2.dd
    cases dd with
    | @tup l vs _ hl r => exact .inr ⟨l, rfl, ⟨vs, SqT.of (E2.sm _ _ hl)⟩, k ds _ ρ1 G2 H1 q E2.dropT (good_tup hl r)⟩
end
end Oak
namespace OakZ
open PySem PySem.Spec PyProof.Rows L2
theorem neN' {a b : Nat} (h : a ≠ b) : (show Addr from a) ≠ (show Addr from b) := h
inductive SK where
  | l | t
def SK.obj : SK → Addr → Obj
  | .l, a => { cls := .type "list_iterator", data := .fields #[.ref a, .int 0 0] }
  | .t, a => { cls := .type "tuple_iterator", data := .fields #[.ref a, .int 0 0] }
def SIt : SK → Heap → Addr → Addr → Nat → Prop
  | .l => Heap.IsListIter
  | .t => Heap.IsTupleIter
def SSq : SK → Heap → Addr → Array Value → Prop
  | .l => Heap.IsList
  | .t => Heap.IsTuple
theorem SK.nf : ∀ (c : SK) (a : Addr), (c.obj a).isFreed = false
  | .l, _ => rfl
  | .t, _ => rfl
theorem SK.it : ∀ {c : SK} {h : Heap} {i a : Addr}, h.get? i = some (c.obj a) → SIt c h i a 0
  | .l, _, _, _, e => ⟨_, e, rfl, rfl⟩
  | .t, _, _, _, e => ⟨_, e, rfl, rfl⟩
theorem SIt.extBut : ∀ {c : SK} {h h' : Heap} {a b l : Addr} {i : Nat}, SIt c h a l i → Heap.ExtBut b h h' → a ≠ b → SIt c h' a l i
  | .l, _, _, _, _, _, _, x, hs, n => Heap.IsListIter.extBut x hs n
  | .t, _, _, _, _, _, _, x, hs, n => Heap.IsTupleIter.extBut x hs n
theorem SIt.at : ∀ {c : SK} {h h' : Heap} {a l : Addr} {i : Nat}, SIt c h a l i → (∀ o, h.get? a = some o → h'.get? a = some o) → SIt c h' a l i
  | .l, _, _, _, _, _, x, e => Heap.IsListIter.at x e
  | .t, _, _, _, _, _, x, e => Heap.IsTupleIter.at x e
theorem SIt.lt : ∀ {c : SK} {h : Heap} {a l : Addr} {i : Nat}, SIt c h a l i → a < h.objs.size
  | .l, _, _, _, _, ⟨_, e, _⟩ => Heap.lt_size e
  | .t, _, _, _, _, ⟨_, e, _⟩ => Heap.lt_size e
theorem SIt.obj : ∀ {c : SK} {h : Heap} {a l : Addr} {i : Nat}, SIt c h a l i → ∃ o, h.get? a = some o ∧ ∀ v, o.data ≠ .cell v
  | .l, _, _, _, _, ⟨o, e, _, d⟩ => ⟨o, e, fun v q => by rw [d] at q; cases q⟩
  | .t, _, _, _, _, ⟨o, e, _, d⟩ => ⟨o, e, fun v q => by rw [d] at q; cases q⟩
theorem SSq.extBut : ∀ {c : SK} {h h' : Heap} {a b : Addr} {its : Array Value}, SSq c h a its → Heap.ExtBut b h h' → a ≠ b → SSq c h' a its
  | .l, _, _, _, _, _, x, hs, n => Heap.IsList.extBut x hs n
  | .t, _, _, _, _, _, x, hs, n => Heap.IsTuple.extBut x hs n
theorem SSq.push : ∀ {c : SK} {h : Heap} {a : Addr} {its : Array Value}, SSq c h a its → ∀ o, SSq c (h.push o) a its
  | .l, _, _, _, x, o => Heap.IsList.push x o
  | .t, _, _, _, x, o => Heap.IsTuple.push x o
theorem SSq.lt : ∀ {c : SK} {h : Heap} {a : Addr} {its : Array Value}, SSq c h a its → a < h.objs.size
  | .l, _, _, _, ⟨_, e, _⟩ => Heap.lt_size e
  | .t, _, _, _, ⟨_, e, _⟩ => Heap.lt_size e
abbrev IsTO (h : Heap) (T : Addr) (vs : Array Value) : Prop := h.get? T = some { cls := .type "tuple", data := .seq vs }
theorem typeCall_zip_3 (a b c : Value) : checkTypeCall "zip" ⟨[a, b, c], []⟩ = pure () := by kernel_rfl
theorem newCall_zip_3 (a b c : Value) : checkBuiltinCall "zip.__new__" ⟨[.type "zip", a, b, c], []⟩ = pure () := by kernel_rfl
theorem args_object_init_4 (a b c d : Value) : argsOk "object.__init__" ⟨[a, b, c, d], []⟩ := by
  unfold argsOk; rw [signature?_of (id := "object.__init__") (n := ['_', '_', 't', 'i', 'n', 'i', '_', '_']) (o := ['t', 'c', 'e', 'j', 'b', 'o']) (by kernel_rfl) F.owner_object]; kernel_rfl
section
variable {prog : Program} {w : World} {A : Around} {E : Value → Shared → Prop} {s : Shared}
theorem nextOf_item : ∀ {c : SK} {it l : Addr} {i : Nat} {items : Array Value} {x : Value} {Q : Value → Shared → Prop}, SIt c s.heap it l i → SSq c s.heap l items → items[i]? = some x →
    (∀ h', SIt c h' it l (i + 1) → Heap.SameBut it s.heap h' → Q x { s with heap := h' }) → wpAny (model prog w) A (Builtin.SmallTypes.nextOf (.ref it)) Q E s
  | .l, _, _, _, _, _, _, a, b, e, q => wpAny_nextOf_list_item a b e q
  | .t, _, _, _, _, _, _, a, b, e, q => RZ.nextOf_tuple_item a b e q
theorem nextOf_end (hh : A.handled = none) : ∀ {c : SK} {it l : Addr} {i : Nat} {items : Array Value} {Q : Value → Shared → Prop}, SIt c s.heap it l i → SSq c s.heap l items → items[i]? = none →
    (∀ h' e, Heap.ExtBut it s.heap h' → (∃ o, h'.get? e = some o ∧ o.cls = .type "StopIteration") → E (.ref e) { s with heap := h' }) → wpAny (model prog w) A (Builtin.SmallTypes.nextOf (.ref it)) Q E s
  | .l, _, _, _, _, _, a, b, e, q => wpAny_nextOf_list_end hh a b e q
  | .t, _, _, _, _, _, a, b, e, q => RZ.nextOf_tuple_end hh a b e q
theorem pyIter_seq : ∀ {c : SK} {l : Addr} {items : Array Value} {Q : Value → Shared → Prop}, SSq c s.heap l items → Q (.ref s.heap.objs.size) { s with heap := s.heap.push (c.obj l) } → wpAny (model prog w) A (pyIter (.ref l)) Q E s
  | .l, _, _, _, a, q => wpAny_pyIter_list a q
  | .t, _, _, _, a, q => wpAny_pyIter_tuple a q
theorem sz_ok {vs : Array Value} (h : vs.size ≤ 3 := by simp) : vs.size ≤ sizeLine := by rw [sizeLine_eq]; omega
theorem updateSeq_to {T : Addr} {vs : Array Value} {x : Value} {k : Nat} {Q : Unit → Shared → Prop} (hT : IsTO s.heap T vs) (hv : vs.size ≤ sizeLine)
    (h : ∀ h', h'.get? T = some { cls := .type "tuple", data := .seq (vs.setIfInBounds k x) } → Heap.SameBut T s.heap h' → Q () { s with heap := h' }) :
    wpAny (model prog w) A (updateSeq T (·.setIfInBounds k x)) Q E s := by
  refine wpAny_updateSeq hT rfl (h _ ?_ (Heap.SameBut.update ..)) (hz := hv) (_hz' := by rw [Array.size_setIfInBounds]; omega)
  rw [Heap.get?_update_self _ hT rfl]
  simp [Obj.mapSeq]
theorem sum_tup {xs : Array (Int × Tok)} {l : Addr} {Q : Value → Shared → Prop} (hh : A.handled = none) (hl : s.heap.IsTuple l (intItems xs))
    (h : ∀ h' tk t', (∀ b o, s.heap.get? b = some o → h'.get? b = some o) → Q (.int (preSum (numAt xs) xs.size) t') { s with heap := h', toks := tk }) :
    wpAny (model prog w) A (call (.builtin "sum") [.ref l]) Q E s := by
  have hlt : l < s.heap.objs.size := by obtain ⟨_, e, _⟩ := hl; exact Heap.lt_size e
  refine call_sum_walkG (wpAny_pyIter_tuple hl ?_)
  refine ⟨_, _, _, _, _, _, numAt xs, rfl, Walks.tuple (A := A.in1) hh s.heap.objs.size l (Nat.ne_of_lt hlt) (intItems xs), ⟨⟨_, Heap.get?_push_size _ rfl, rfl, rfl⟩, hl.push _⟩, fun b hb => ?_, (fun _ _ => intItems_at), fun h' tk t' hk => ?_⟩
  · show b < (s.heap.push _).objs.size
    rw [Heap.size_push]
    rcases List.mem_cons.mp hb with rfl | hb
    · exact Nat.lt_succ_self _
    · rcases List.mem_cons.mp hb with rfl | hb
      · exact Nat.lt_succ_of_lt hlt
      · cases hb
  · have := h h' tk t' fun b o e => hk b o (fun hm => absurd (Heap.lt_size e) ((List.mem_singleton.mp hm) ▸ Nat.lt_irrefl _)) (Heap.get?_push_of_some _ e)
    simpa [intItems] using this
structure ZA2 (z TI TO i1 i2 l1 l2 : Addr) : Prop where
  TI_z : TI ≠ z
  TO_z : TO ≠ z
  i1_z : i1 ≠ z
  i2_z : i2 ≠ z
  TI_TO : TI ≠ TO
  TI_i1 : TI ≠ i1
  TI_i2 : TI ≠ i2
  TO_i1 : TO ≠ i1
  TO_i2 : TO ≠ i2
  i1_i2 : i1 ≠ i2
  l1_z : l1 ≠ z
  l1_TO : l1 ≠ TO
  l1_i1 : l1 ≠ i1
  l1_i2 : l1 ≠ i2
  l2_z : l2 ≠ z
  l2_TO : l2 ≠ TO
  l2_i1 : l2 ≠ i1
  l2_i2 : l2 ≠ i2
theorem za2 {I l1 l2 : Nat} (b1 : l1 < I) (b2 : l2 < I) : ZA2 (I + 4) (I + 2) (I + 3) I (I + 1) l1 l2 := by
  constructor <;> (refine neN' ?_; omega)
theorem zip2_item {z TI TO i1 i2 l1 l2 : Addr} {c1 c2 : SK} {k : Nat} {ys1 ys2 : Array Value} {y1 y2 a1 a2 : Value} {Q : Value → Shared → Prop} (D : ZA2 z TI TO i1 i2 l1 l2)
    (hz : IsZip s.heap z TI TO .none) (hTI : IsTO s.heap TI #[.ref i1, .ref i2]) (hTO : IsTO s.heap TO #[a1, a2])
    (h1 : SIt c1 s.heap i1 l1 k) (h2 : SIt c2 s.heap i2 l2 k) (hl1 : SSq c1 s.heap l1 ys1) (hl2 : SSq c2 s.heap l2 ys2) (hx1 : ys1[k]? = some y1) (hx2 : ys2[k]? = some y2)
    (hQ : (∀ h', IsZip h' z TI TO (rawInt s.heap.objs.size) → IsTO h' TO #[y1, y2] → SIt c1 h' i1 l1 (k + 1) → SIt c2 h' i2 l2 (k + 1) → IsTO h' s.heap.objs.size #[y1, y2] → h'.objs.size = s.heap.objs.size + 1 →
      (∀ c o, c ≠ z → c ≠ TO → c ≠ i1 → c ≠ i2 → s.heap.get? c = some o → h'.get? c = some o) → Q (.ref s.heap.objs.size) { s with heap := h' })) :
    wpAny (model prog w) A (Builtin.«zip.__next__» ⟨[.ref z], []⟩) (fun fin s' => ∃ v, fin = .done (.ret v) ∧ Q v s') E s := by
  show wpAny _ _ (field (.ref z) 2 >>= _) _ _ _
  refine wpAny_bind (wpAny_field hz rfl (x := .bool false) rfl ?_)
  show wpAny _ _ (field (.ref z) 3 >>= _) _ _ _
  refine wpAny_bind (wpAny_field hz rfl (x := .ref TI) rfl ?_)
  refine wpAny_bind (wpAny_seqItems hTI rfl ?_)
  show wpAny _ _ (Builtin.SmallTypes.ownedTupleIsFree (.ref z) >>= _) _ _ _
  refine wpAny_bind ?_
  unfold Builtin.SmallTypes.ownedTupleIsFree
  refine wpAny_bind (wpAny_field hz rfl (x := .none) rfl (wpAny_pure ?_))
  simp only [if_true]
  refine wpAny_bind (wpAny_rule ?_)
  refine wpAny_bind (wpAny_field hz rfl (x := .ref TO) rfl ?_)
  refine wpAny_bind (wpAny_setField_rec hz (by simp) fun g0 hz1 s0 => ?_)
  replace hz1 : IsZip g0 z TI TO .ellipsis := hz1
  refine wpAny_bind ?_
  simp only [List.zipIdx_cons, List.zipIdx_nil, List.forIn_cons, List.forIn_nil]
  refine wpAny_bind (wpAny_bind (wpAny_onRaise ?_))
  show wpAny _ _ (Builtin.SmallTypes.nextOf (.ref i1) >>= _) _ _ _
  refine wpAny_bind (nextOf_item (SIt.extBut h1 s0.extBut D.i1_z) (SSq.extBut hl1 s0.extBut D.l1_z) hx1 fun g1 h1' s1 => wpAny_pure ?_)
  have hTO1 : IsTO g1 TO #[a1, a2] := (s1.extBut _ _ D.TO_i1 (s0.extBut _ _ D.TO_z hTO))
  refine wpAny_bind (wpAny_seqItems hTO1 rfl ?_)
  refine wpAny_bind (updateSeq_to hTO1 sz_ok fun g2 hTO2 s2 => ?_)
  replace hTO2 : IsTO g2 TO #[y1, a2] := hTO2
  refine wpAny_bind (wpAny_letGo (wpAny_pure ?_))
  refine wpAny_bind (wpAny_bind (wpAny_onRaise ?_))
  show wpAny _ _ (Builtin.SmallTypes.nextOf (.ref i2) >>= _) _ _ _
  refine wpAny_bind (nextOf_item (SIt.extBut (SIt.extBut (SIt.extBut h2 s0.extBut D.i2_z) s1.extBut D.i1_i2.symm) s2.extBut D.TO_i2.symm) (SSq.extBut (SSq.extBut (SSq.extBut hl2 s0.extBut D.l2_z) s1.extBut D.l2_i1) s2.extBut D.l2_TO) hx2 fun g3 h2' s3 => wpAny_pure ?_)
  have hTO3 : IsTO g3 TO #[y1, a2] := (s3.extBut _ _ D.TO_i2 hTO2)
  refine wpAny_bind (wpAny_seqItems hTO3 rfl ?_)
  refine wpAny_bind (updateSeq_to hTO3 sz_ok fun g4 hTO4 s4 => ?_)
  replace hTO4 : IsTO g4 TO #[y1, y2] := hTO4
  refine wpAny_bind (wpAny_letGo (wpAny_pure (wpAny_pure ?_)))
  refine wpAny_bind (wpAny_seqItems hTO4 rfl ?_)
  refine wpAny_bind (wpAny_newTuple ?_)
  have hsz : g4.objs.size = s.heap.objs.size := by rw [s4.1, s3.1, s2.1, s1.1, s0.1]
  have hz5 : IsZip g4 z TI TO .ellipsis := (s4.extBut _ _ D.TO_z.symm (s3.extBut _ _ D.i2_z.symm (s2.extBut _ _ D.TO_z.symm (s1.extBut _ _ D.i1_z.symm hz1))))
  have hk5 : ∀ c o, c ≠ z → c ≠ TO → c ≠ i1 → c ≠ i2 → s.heap.get? c = some o → g4.get? c = some o := fun c o q0 q1 q2 q3 e => (s4.extBut _ _ q1 (s3.extBut _ _ q3 (s2.extBut _ _ q1 (s1.extBut _ _ q2 (s0.extBut _ _ q0 e)))))
  have h15 : SIt c1 g4 i1 l1 (k + 1) := (SIt.extBut (SIt.extBut (SIt.extBut h1' s2.extBut D.TO_i1.symm) s3.extBut D.i1_i2) s4.extBut D.TO_i1.symm)
  have h25 : SIt c2 g4 i2 l2 (k + 1) := (SIt.extBut h2' s4.extBut D.TO_i2.symm)
  have hzlt : z < g4.objs.size := Heap.lt_size hz5
  show wpAny _ _ (Builtin.SmallTypes.ownedTupleHandOut (.ref z) (.ref g4.objs.size) >>= _) _ _ _
  refine wpAny_bind ?_
  unfold Builtin.SmallTypes.ownedTupleHandOut
  have hz6 : IsZip (g4.push { cls := .type "tuple", data := .seq #[y1, y2] }) z TI TO .ellipsis := Heap.get?_push_of_some _ hz5
  refine wpAny_bind (wpAny_setField_rec hz6 (by simp) fun f7 hz7 t7 => ?_)
  replace hz7 : IsZip f7 z TI TO (rawInt g4.objs.size) := hz7
  refine wpAny_setField_rec hz7 (by simp) fun f8 hz8 t8 => ?_
  replace hz8 : IsZip f8 z TI TO (rawInt g4.objs.size) := hz8
  have up : ∀ c o, c ≠ z → g4.get? c = some o → f8.get? c = some o := fun c o c1 e => t8.extBut _ _ c1 (t7.extBut _ _ c1 (Heap.get?_push_of_some _ e))
  have hT8 : IsTO f8 g4.objs.size #[y1, y2] := t8.extBut _ _ (Nat.ne_of_gt hzlt) (t7.extBut _ _ (Nat.ne_of_gt hzlt) (Heap.get?_push_size _ rfl))
  have hs8 : f8.objs.size = g4.objs.size + 1 := by rw [t8.1, t7.1, Heap.size_push]
  rw [hsz] at hz8 hT8 hs8
  refine wpAny_pure ⟨_, rfl, ?_⟩
  show Q (.ref g4.objs.size) _
  rw [hsz]
  exact hQ f8 hz8 (up _ _ D.TO_z hTO4) (h15.at fun o e => up _ o D.i1_z e) (h25.at fun o e => up _ o D.i2_z e) hT8 hs8 fun c o q0 q1 q2 q3 e => up c o q0 (hk5 c o q0 q1 q2 q3 e)
theorem zip2_end {z TI TO i1 i2 l1 l2 : Addr} {c1 c2 : SK} {k : Nat} {ys1 ys2 : Array Value} {a1 a2 : Value} {Q : Fin → Shared → Prop} (hh : A.handled = none) (D : ZA2 z TI TO i1 i2 l1 l2)
    (hz : IsZip s.heap z TI TO .none) (hTI : IsTO s.heap TI #[.ref i1, .ref i2]) (hTO : IsTO s.heap TO #[a1, a2])
    (h1 : SIt c1 s.heap i1 l1 k) (h2 : SIt c2 s.heap i2 l2 k) (hl1 : SSq c1 s.heap l1 ys1) (hl2 : SSq c2 s.heap l2 ys2) (hend : ys1[k]? = none ∨ ys2[k]? = none)
    (hE : ∀ h' e, (∀ c o, c ≠ z → c ≠ TO → c ≠ i1 → c ≠ i2 → s.heap.get? c = some o → h'.get? c = some o) → (∃ o, h'.get? e = some o ∧ o.cls = .type "StopIteration") → E (.ref e) { s with heap := h' }) :
    wpAny (model prog w) A (Builtin.«zip.__next__» ⟨[.ref z], []⟩) Q E s := by
  show wpAny _ _ (field (.ref z) 2 >>= _) _ _ _
  refine wpAny_bind (wpAny_field hz rfl (x := .bool false) rfl ?_)
  show wpAny _ _ (field (.ref z) 3 >>= _) _ _ _
  refine wpAny_bind (wpAny_field hz rfl (x := .ref TI) rfl ?_)
  refine wpAny_bind (wpAny_seqItems hTI rfl ?_)
  show wpAny _ _ (Builtin.SmallTypes.ownedTupleIsFree (.ref z) >>= _) _ _ _
  refine wpAny_bind ?_
  unfold Builtin.SmallTypes.ownedTupleIsFree
  refine wpAny_bind (wpAny_field hz rfl (x := .none) rfl (wpAny_pure ?_))
  simp only [if_true]
  refine wpAny_bind (wpAny_rule ?_)
  refine wpAny_bind (wpAny_field hz rfl (x := .ref TO) rfl ?_)
  refine wpAny_bind (wpAny_setField_rec hz (by simp) fun g0 hz1 s0 => ?_)
  replace hz1 : IsZip g0 z TI TO .ellipsis := hz1
  refine wpAny_bind ?_
  simp only [List.zipIdx_cons, List.zipIdx_nil, List.forIn_cons, List.forIn_nil]
  refine wpAny_bind (wpAny_bind (wpAny_onRaise ?_))
  show wpAny _ _ (Builtin.SmallTypes.nextOf (.ref i1) >>= _) _ _ _
  cases hx1 : ys1[k]? with
  | none =>
    refine wpAny_bind (nextOf_end hh (SIt.extBut h1 s0.extBut D.i1_z) (SSq.extBut hl1 s0.extBut D.l1_z) hx1 fun f2 e t2 he => ?_)
    obtain ⟨oe, hoe, hce⟩ := he
    have hz2 : IsZip f2 z TI TO .ellipsis := (t2 _ _ D.i1_z.symm hz1)
    have hez : e ≠ z := fun x => by subst x; rw [hz2] at hoe; cases hoe; simp at hce
    refine wpAny_setField_rec hz2 (by simp) fun f3 _ t3 => hE f3 e (fun c o q0 q1 q2 q3 x => t3.extBut _ _ q0 (t2 _ _ q2 (s0.extBut _ _ q0 x))) ⟨oe, t3.extBut _ _ hez hoe, hce⟩
  | some y1 =>
    refine wpAny_bind (nextOf_item (SIt.extBut h1 s0.extBut D.i1_z) (SSq.extBut hl1 s0.extBut D.l1_z) hx1 fun g1 h1' s1 => wpAny_pure ?_)
    have hTO1 : IsTO g1 TO #[a1, a2] := (s1.extBut _ _ D.TO_i1 (s0.extBut _ _ D.TO_z hTO))
    refine wpAny_bind (wpAny_seqItems hTO1 rfl ?_)
    refine wpAny_bind (updateSeq_to hTO1 sz_ok fun g2 hTO2 s2 => ?_)
    replace hTO2 : IsTO g2 TO #[y1, a2] := hTO2
    refine wpAny_bind (wpAny_letGo (wpAny_pure ?_))
    refine wpAny_bind (wpAny_bind (wpAny_onRaise ?_))
    show wpAny _ _ (Builtin.SmallTypes.nextOf (.ref i2) >>= _) _ _ _
    cases hx2 : ys2[k]? with
    | none =>
      refine wpAny_bind (nextOf_end hh (SIt.extBut (SIt.extBut (SIt.extBut h2 s0.extBut D.i2_z) s1.extBut D.i1_i2.symm) s2.extBut D.TO_i2.symm) (SSq.extBut (SSq.extBut (SSq.extBut hl2 s0.extBut D.l2_z) s1.extBut D.l2_i1) s2.extBut D.l2_TO) hx2 fun f2 e t2 he => ?_)
      obtain ⟨oe, hoe, hce⟩ := he
      have hz2 : IsZip f2 z TI TO .ellipsis := (t2 _ _ D.i2_z.symm (s2.extBut _ _ D.TO_z.symm (s1.extBut _ _ D.i1_z.symm hz1)))
      have hez : e ≠ z := fun x => by subst x; rw [hz2] at hoe; cases hoe; simp at hce
      refine wpAny_setField_rec hz2 (by simp) fun f3 _ t3 => hE f3 e (fun c o q0 q1 q2 q3 x => t3.extBut _ _ q0 (t2 _ _ q3 (s2.extBut _ _ q1 (s1.extBut _ _ q2 (s0.extBut _ _ q0 x))))) ⟨oe, t3.extBut _ _ hez hoe, hce⟩
    | some y2 =>
      exfalso
      rw [hx1, hx2] at hend
      simp at hend
theorem pyNext_zip2_item {z TI TO i1 i2 l1 l2 : Addr} {c1 c2 : SK} {k : Nat} {ys1 ys2 : Array Value} {y1 y2 a1 a2 : Value} {Q : Option Value → Shared → Prop} (D : ZA2 z TI TO i1 i2 l1 l2)
    (hz : IsZip s.heap z TI TO .none) (hTI : IsTO s.heap TI #[.ref i1, .ref i2]) (hTO : IsTO s.heap TO #[a1, a2])
    (h1 : SIt c1 s.heap i1 l1 k) (h2 : SIt c2 s.heap i2 l2 k) (hl1 : SSq c1 s.heap l1 ys1) (hl2 : SSq c2 s.heap l2 ys2) (hx1 : ys1[k]? = some y1) (hx2 : ys2[k]? = some y2)
    (hQ : (∀ h', IsZip h' z TI TO (rawInt s.heap.objs.size) → IsTO h' TO #[y1, y2] → SIt c1 h' i1 l1 (k + 1) → SIt c2 h' i2 l2 (k + 1) → IsTO h' s.heap.objs.size #[y1, y2] → h'.objs.size = s.heap.objs.size + 1 →
      (∀ c o, c ≠ z → c ≠ TO → c ≠ i1 → c ≠ i2 → s.heap.get? c = some o → h'.get? c = some o) → Q (some (.ref s.heap.objs.size)) { s with heap := h' })) :
    wpAny (model prog w) A (pyNext (.ref z)) Q E s := by
  have hT : s.TypeIs (.ref z) "zip" := ⟨_, hz, rfl⟩
  unfold pyNext
  exact wpAny_bind (wpAny_attempt (wpAny_callSpecial?_slot (name := Str.ofString "__next__") hT F.slot_zip_next
    (wpAny_call_entry F.slot_zip_next hT F.entry_zip_next
      (zip2_item D hz hTI hTO h1 h2 hl1 hl2 hx1 hx2 fun h' b0 b1 b2 b3 b4 b5 b6 => wpAny_pure (hQ h' b0 b1 b2 b3 b4 b5 b6)) (F.args_zip_next_1 _))))
theorem pyNext_zip2_end {z TI TO i1 i2 l1 l2 : Addr} {c1 c2 : SK} {k : Nat} {ys1 ys2 : Array Value} {a1 a2 : Value} {Q : Option Value → Shared → Prop} (hh : A.handled = none) (D : ZA2 z TI TO i1 i2 l1 l2)
    (hz : IsZip s.heap z TI TO .none) (hTI : IsTO s.heap TI #[.ref i1, .ref i2]) (hTO : IsTO s.heap TO #[a1, a2])
    (h1 : SIt c1 s.heap i1 l1 k) (h2 : SIt c2 s.heap i2 l2 k) (hl1 : SSq c1 s.heap l1 ys1) (hl2 : SSq c2 s.heap l2 ys2) (hend : ys1[k]? = none ∨ ys2[k]? = none)
    (hQ : ∀ h', (∀ c o, c ≠ z → c ≠ TO → c ≠ i1 → c ≠ i2 → s.heap.get? c = some o → h'.get? c = some o) → Q none { s with heap := h' }) : wpAny (model prog w) A (pyNext (.ref z)) Q E s := by
  have hT : s.TypeIs (.ref z) "zip" := ⟨_, hz, rfl⟩
  unfold pyNext
  refine wpAny_bind (wpAny_attempt (wpAny_callSpecial?_slot (name := Str.ofString "__next__") hT F.slot_zip_next
    (wpAny_call_entry F.slot_zip_next hT F.entry_zip_next (zip2_end hh D hz hTI hTO h1 h2 hl1 hl2 hend fun h' e hk he => ?_) (F.args_zip_next_1 _))))
  obtain ⟨o, ho, hc⟩ := he
  refine wpAny_bind (wpAny_isInstance (T := "StopIteration") (b := true) ⟨o, ho, hc⟩ isSubtype_stop ?_)
  exact wpAny_pure (hQ _ hk)
abbrev zH2_1 (h : Heap) (c1 : SK) (l1 : Addr) : Heap := h.push (c1.obj l1)
abbrev zH2_2 (h : Heap) (c1 : SK) (l1 : Addr) (c2 : SK) (l2 : Addr) : Heap := (zH2_1 h c1 l1).push (c2.obj l2)
abbrev zH2_3 (h : Heap) (c1 : SK) (l1 : Addr) (c2 : SK) (l2 : Addr) : Heap := (zH2_2 h c1 l1 c2 l2).push { cls := .type "tuple", data := .seq #[.ref h.objs.size, .ref (zH2_1 h c1 l1).objs.size] }
abbrev zH2_4 (h : Heap) (c1 : SK) (l1 : Addr) (c2 : SK) (l2 : Addr) : Heap := (zH2_3 h c1 l1 c2 l2).push { cls := .type "tuple", data := .seq #[.none, .none] }
abbrev zH2_5 (h : Heap) (c1 : SK) (l1 : Addr) (c2 : SK) (l2 : Addr) : Heap := (zH2_4 h c1 l1 c2 l2).push { cls := .type "zip", data := .fields #[.none, .bool false, .bool false, .ref (zH2_2 h c1 l1 c2 l2).objs.size, .ref (zH2_3 h c1 l1 c2 l2).objs.size] }
theorem meets_zip2 (c1 : SK) (l1 : Addr) (c2 : SK) (l2 : Addr) (ys1 ys2 : Array Value) :
    Meets (Builtin.«zip.__new__» ⟨[.type "zip", .ref l1, .ref l2], []⟩) (fun _ R s => SSq c1 s.heap l1 ys1 ∧ SSq c2 s.heap l2 ys2 ∧
      R (.ok (.ret (.ref (zH2_4 s.heap c1 l1 c2 l2).objs.size))) { s with heap := zH2_5 s.heap c1 l1 c2 l2 }) :=
  .of_wp fun prog w A R s h => by
    obtain ⟨hp, g, d, tk, os⟩ := s; obtain ⟨hl1, hl2, h⟩ := h
    have hsub := sub_zip
    have hL1 : SSq c1 (Shared.heap ⟨hp, g, d, tk, os⟩) l1 ys1 := hl1
    have hL2 : SSq c2 (Shared.heap ⟨(zH2_1 hp c1 l1), g, d, tk, os⟩) l2 ys2 := (SSq.push hl2 _)
    wp_walk using pyIter_seq hL1, pyIter_seq hL2
    exact ⟨_, rfl, h⟩
theorem call_zip2 {c1 : SK} {l1 : Addr} {c2 : SK} {l2 : Addr} {ys1 ys2 : Array Value} {Q : Value → Shared → Prop} (hl1 : SSq c1 s.heap l1 ys1) (hl2 : SSq c2 s.heap l2 ys2)
    (h : ∀ h', IsZip h' (s.heap.objs.size + 4) (s.heap.objs.size + 2) (s.heap.objs.size + 3) .none → IsTO h' (s.heap.objs.size + 2) #[.ref s.heap.objs.size, .ref (s.heap.objs.size + 1)] → IsTO h' (s.heap.objs.size + 3) #[.none, .none] → SIt c1 h' s.heap.objs.size l1 0 → SIt c2 h' (s.heap.objs.size + 1) l2 0 → h'.objs.size = s.heap.objs.size + 5 →
      (∀ c o, s.heap.get? c = some o → h'.get? c = some o) → Q (.ref (s.heap.objs.size + 4)) { s with heap := h' }) :
    wpAny (model prog w) A (call (.type "zip") [.ref l1, .ref l2]) Q E s := by
  refine callType_new F.called_zip (by decide) (F.typeCall_zip_2 _ _) (F.newCall_zip_2 _ _) (fun obj => F.args_object_init_3 obj _ _) F.entry_zip_new
    (meets_zip2 c1 l1 c2 l2 ys1 ys2) ⟨hl1, hl2, ?_⟩
  have z1 : (zH2_1 s.heap c1 l1).objs.size = s.heap.objs.size + 1 := Heap.size_push ..
  have z2 : (zH2_2 s.heap c1 l1 c2 l2).objs.size = s.heap.objs.size + 2 := by rw [Heap.size_push, z1]
  have z3 : (zH2_3 s.heap c1 l1 c2 l2).objs.size = s.heap.objs.size + 3 := by rw [Heap.size_push, z2]
  have z4 : (zH2_4 s.heap c1 l1 c2 l2).objs.size = s.heap.objs.size + 4 := by rw [Heap.size_push, z3]
  have z5 : (zH2_5 s.heap c1 l1 c2 l2).objs.size = s.heap.objs.size + 5 := by rw [Heap.size_push, z4]
  have g1 : (zH2_5 s.heap c1 l1 c2 l2).get? s.heap.objs.size = some _ := (Heap.get?_push_of_some _ (Heap.get?_push_of_some _ (Heap.get?_push_of_some _ (Heap.get?_push_of_some _ (Heap.get?_push_size _ (by first | rfl | exact SK.nf _ _))))))
  have g2 : (zH2_5 s.heap c1 l1 c2 l2).get? (zH2_1 s.heap c1 l1).objs.size = some _ := (Heap.get?_push_of_some _ (Heap.get?_push_of_some _ (Heap.get?_push_of_some _ (Heap.get?_push_size _ (by first | rfl | exact SK.nf _ _)))))
  have g3 : (zH2_5 s.heap c1 l1 c2 l2).get? (zH2_2 s.heap c1 l1 c2 l2).objs.size = some _ := (Heap.get?_push_of_some _ (Heap.get?_push_of_some _ (Heap.get?_push_size _ (by first | rfl | exact SK.nf _ _))))
  have g4 : (zH2_5 s.heap c1 l1 c2 l2).get? (zH2_3 s.heap c1 l1 c2 l2).objs.size = some _ := (Heap.get?_push_of_some _ (Heap.get?_push_size _ (by first | rfl | exact SK.nf _ _)))
  have g5 : (zH2_5 s.heap c1 l1 c2 l2).get? (zH2_4 s.heap c1 l1 c2 l2).objs.size = some _ := (Heap.get?_push_size _ (by first | rfl | exact SK.nf _ _))
  show _ ∧ _
  rw [z2, z3, z4] at g5
  rw [z2, z1] at g3
  rw [z3] at g4
  rw [z1] at g2
  rw [z4]
  exact ⟨⟨_, g5, rfl⟩, h _ g5 g3 g4 (SK.it g1) (SK.it g2) z5 fun c o x => (Heap.get?_push_of_some _ (Heap.get?_push_of_some _ (Heap.get?_push_of_some _ (Heap.get?_push_of_some _ (Heap.get?_push_of_some _ x)))))⟩
structure ZA3 (z TI TO i1 i2 i3 l1 l2 l3 : Addr) : Prop where
  TI_z : TI ≠ z
  TO_z : TO ≠ z
  i1_z : i1 ≠ z
  i2_z : i2 ≠ z
  i3_z : i3 ≠ z
  TI_TO : TI ≠ TO
  TI_i1 : TI ≠ i1
  TI_i2 : TI ≠ i2
  TI_i3 : TI ≠ i3
  TO_i1 : TO ≠ i1
  TO_i2 : TO ≠ i2
  TO_i3 : TO ≠ i3
  i1_i2 : i1 ≠ i2
  i1_i3 : i1 ≠ i3
  i2_i3 : i2 ≠ i3
  l1_z : l1 ≠ z
  l1_TO : l1 ≠ TO
  l1_i1 : l1 ≠ i1
  l1_i2 : l1 ≠ i2
  l1_i3 : l1 ≠ i3
  l2_z : l2 ≠ z
  l2_TO : l2 ≠ TO
  l2_i1 : l2 ≠ i1
  l2_i2 : l2 ≠ i2
  l2_i3 : l2 ≠ i3
  l3_z : l3 ≠ z
  l3_TO : l3 ≠ TO
  l3_i1 : l3 ≠ i1
  l3_i2 : l3 ≠ i2
  l3_i3 : l3 ≠ i3
theorem za3 {I l1 l2 l3 : Nat} (b1 : l1 < I) (b2 : l2 < I) (b3 : l3 < I) : ZA3 (I + 5) (I + 3) (I + 4) I (I + 1) (I + 2) l1 l2 l3 := by
  constructor <;> (refine neN' ?_; omega)
theorem zip3_item {z TI TO i1 i2 i3 l1 l2 l3 : Addr} {c1 c2 c3 : SK} {k : Nat} {ys1 ys2 ys3 : Array Value} {y1 y2 y3 a1 a2 a3 : Value} {Q : Value → Shared → Prop} (D : ZA3 z TI TO i1 i2 i3 l1 l2 l3)
    (hz : IsZip s.heap z TI TO .none) (hTI : IsTO s.heap TI #[.ref i1, .ref i2, .ref i3]) (hTO : IsTO s.heap TO #[a1, a2, a3])
    (h1 : SIt c1 s.heap i1 l1 k) (h2 : SIt c2 s.heap i2 l2 k) (h3 : SIt c3 s.heap i3 l3 k) (hl1 : SSq c1 s.heap l1 ys1) (hl2 : SSq c2 s.heap l2 ys2) (hl3 : SSq c3 s.heap l3 ys3) (hx1 : ys1[k]? = some y1) (hx2 : ys2[k]? = some y2) (hx3 : ys3[k]? = some y3)
    (hQ : (∀ h', IsZip h' z TI TO (rawInt s.heap.objs.size) → IsTO h' TO #[y1, y2, y3] → SIt c1 h' i1 l1 (k + 1) → SIt c2 h' i2 l2 (k + 1) → SIt c3 h' i3 l3 (k + 1) → IsTO h' s.heap.objs.size #[y1, y2, y3] → h'.objs.size = s.heap.objs.size + 1 →
      (∀ c o, c ≠ z → c ≠ TO → c ≠ i1 → c ≠ i2 → c ≠ i3 → s.heap.get? c = some o → h'.get? c = some o) → Q (.ref s.heap.objs.size) { s with heap := h' })) :
    wpAny (model prog w) A (Builtin.«zip.__next__» ⟨[.ref z], []⟩) (fun fin s' => ∃ v, fin = .done (.ret v) ∧ Q v s') E s := by
  show wpAny _ _ (field (.ref z) 2 >>= _) _ _ _
  refine wpAny_bind (wpAny_field hz rfl (x := .bool false) rfl ?_)
  show wpAny _ _ (field (.ref z) 3 >>= _) _ _ _
  refine wpAny_bind (wpAny_field hz rfl (x := .ref TI) rfl ?_)
  refine wpAny_bind (wpAny_seqItems hTI rfl ?_)
  show wpAny _ _ (Builtin.SmallTypes.ownedTupleIsFree (.ref z) >>= _) _ _ _
  refine wpAny_bind ?_
  unfold Builtin.SmallTypes.ownedTupleIsFree
  refine wpAny_bind (wpAny_field hz rfl (x := .none) rfl (wpAny_pure ?_))
  simp only [if_true]
  refine wpAny_bind (wpAny_rule ?_)
  refine wpAny_bind (wpAny_field hz rfl (x := .ref TO) rfl ?_)
  refine wpAny_bind (wpAny_setField_rec hz (by simp) fun g0 hz1 s0 => ?_)
  replace hz1 : IsZip g0 z TI TO .ellipsis := hz1
  refine wpAny_bind ?_
  simp only [List.zipIdx_cons, List.zipIdx_nil, List.forIn_cons, List.forIn_nil]
  refine wpAny_bind (wpAny_bind (wpAny_onRaise ?_))
  show wpAny _ _ (Builtin.SmallTypes.nextOf (.ref i1) >>= _) _ _ _
  refine wpAny_bind (nextOf_item (SIt.extBut h1 s0.extBut D.i1_z) (SSq.extBut hl1 s0.extBut D.l1_z) hx1 fun g1 h1' s1 => wpAny_pure ?_)
  have hTO1 : IsTO g1 TO #[a1, a2, a3] := (s1.extBut _ _ D.TO_i1 (s0.extBut _ _ D.TO_z hTO))
  refine wpAny_bind (wpAny_seqItems hTO1 rfl ?_)
  refine wpAny_bind (updateSeq_to hTO1 sz_ok fun g2 hTO2 s2 => ?_)
  replace hTO2 : IsTO g2 TO #[y1, a2, a3] := hTO2
  refine wpAny_bind (wpAny_letGo (wpAny_pure ?_))
  refine wpAny_bind (wpAny_bind (wpAny_onRaise ?_))
  show wpAny _ _ (Builtin.SmallTypes.nextOf (.ref i2) >>= _) _ _ _
  refine wpAny_bind (nextOf_item (SIt.extBut (SIt.extBut (SIt.extBut h2 s0.extBut D.i2_z) s1.extBut D.i1_i2.symm) s2.extBut D.TO_i2.symm) (SSq.extBut (SSq.extBut (SSq.extBut hl2 s0.extBut D.l2_z) s1.extBut D.l2_i1) s2.extBut D.l2_TO) hx2 fun g3 h2' s3 => wpAny_pure ?_)
  have hTO3 : IsTO g3 TO #[y1, a2, a3] := (s3.extBut _ _ D.TO_i2 hTO2)
  refine wpAny_bind (wpAny_seqItems hTO3 rfl ?_)
  refine wpAny_bind (updateSeq_to hTO3 sz_ok fun g4 hTO4 s4 => ?_)
  replace hTO4 : IsTO g4 TO #[y1, y2, a3] := hTO4
  refine wpAny_bind (wpAny_letGo (wpAny_pure ?_))
  refine wpAny_bind (wpAny_bind (wpAny_onRaise ?_))
  show wpAny _ _ (Builtin.SmallTypes.nextOf (.ref i3) >>= _) _ _ _
  refine wpAny_bind (nextOf_item (SIt.extBut (SIt.extBut (SIt.extBut (SIt.extBut (SIt.extBut h3 s0.extBut D.i3_z) s1.extBut D.i1_i3.symm) s2.extBut D.TO_i3.symm) s3.extBut D.i2_i3.symm) s4.extBut D.TO_i3.symm) (SSq.extBut (SSq.extBut (SSq.extBut (SSq.extBut (SSq.extBut hl3 s0.extBut D.l3_z) s1.extBut D.l3_i1) s2.extBut D.l3_TO) s3.extBut D.l3_i2) s4.extBut D.l3_TO) hx3 fun g5 h3' s5 => wpAny_pure ?_)
  have hTO5 : IsTO g5 TO #[y1, y2, a3] := (s5.extBut _ _ D.TO_i3 hTO4)
  refine wpAny_bind (wpAny_seqItems hTO5 rfl ?_)
  refine wpAny_bind (updateSeq_to hTO5 sz_ok fun g6 hTO6 s6 => ?_)
  replace hTO6 : IsTO g6 TO #[y1, y2, y3] := hTO6
  refine wpAny_bind (wpAny_letGo (wpAny_pure (wpAny_pure ?_)))
  refine wpAny_bind (wpAny_seqItems hTO6 rfl ?_)
  refine wpAny_bind (wpAny_newTuple ?_)
  have hsz : g6.objs.size = s.heap.objs.size := by rw [s6.1, s5.1, s4.1, s3.1, s2.1, s1.1, s0.1]
  have hz5 : IsZip g6 z TI TO .ellipsis := (s6.extBut _ _ D.TO_z.symm (s5.extBut _ _ D.i3_z.symm (s4.extBut _ _ D.TO_z.symm (s3.extBut _ _ D.i2_z.symm (s2.extBut _ _ D.TO_z.symm (s1.extBut _ _ D.i1_z.symm hz1))))))
  have hk5 : ∀ c o, c ≠ z → c ≠ TO → c ≠ i1 → c ≠ i2 → c ≠ i3 → s.heap.get? c = some o → g6.get? c = some o := fun c o q0 q1 q2 q3 q4 e => (s6.extBut _ _ q1 (s5.extBut _ _ q4 (s4.extBut _ _ q1 (s3.extBut _ _ q3 (s2.extBut _ _ q1 (s1.extBut _ _ q2 (s0.extBut _ _ q0 e)))))))
  have h15 : SIt c1 g6 i1 l1 (k + 1) := (SIt.extBut (SIt.extBut (SIt.extBut (SIt.extBut (SIt.extBut h1' s2.extBut D.TO_i1.symm) s3.extBut D.i1_i2) s4.extBut D.TO_i1.symm) s5.extBut D.i1_i3) s6.extBut D.TO_i1.symm)
  have h25 : SIt c2 g6 i2 l2 (k + 1) := (SIt.extBut (SIt.extBut (SIt.extBut h2' s4.extBut D.TO_i2.symm) s5.extBut D.i2_i3) s6.extBut D.TO_i2.symm)
  have h35 : SIt c3 g6 i3 l3 (k + 1) := (SIt.extBut h3' s6.extBut D.TO_i3.symm)
  have hzlt : z < g6.objs.size := Heap.lt_size hz5
  show wpAny _ _ (Builtin.SmallTypes.ownedTupleHandOut (.ref z) (.ref g6.objs.size) >>= _) _ _ _
  refine wpAny_bind ?_
  unfold Builtin.SmallTypes.ownedTupleHandOut
  have hz6 : IsZip (g6.push { cls := .type "tuple", data := .seq #[y1, y2, y3] }) z TI TO .ellipsis := Heap.get?_push_of_some _ hz5
  refine wpAny_bind (wpAny_setField_rec hz6 (by simp) fun f7 hz7 t7 => ?_)
  replace hz7 : IsZip f7 z TI TO (rawInt g6.objs.size) := hz7
  refine wpAny_setField_rec hz7 (by simp) fun f8 hz8 t8 => ?_
  replace hz8 : IsZip f8 z TI TO (rawInt g6.objs.size) := hz8
  have up : ∀ c o, c ≠ z → g6.get? c = some o → f8.get? c = some o := fun c o c1 e => t8.extBut _ _ c1 (t7.extBut _ _ c1 (Heap.get?_push_of_some _ e))
  have hT8 : IsTO f8 g6.objs.size #[y1, y2, y3] := t8.extBut _ _ (Nat.ne_of_gt hzlt) (t7.extBut _ _ (Nat.ne_of_gt hzlt) (Heap.get?_push_size _ rfl))
  have hs8 : f8.objs.size = g6.objs.size + 1 := by rw [t8.1, t7.1, Heap.size_push]
  rw [hsz] at hz8 hT8 hs8
  refine wpAny_pure ⟨_, rfl, ?_⟩
  show Q (.ref g6.objs.size) _
  rw [hsz]
  exact hQ f8 hz8 (up _ _ D.TO_z hTO6) (h15.at fun o e => up _ o D.i1_z e) (h25.at fun o e => up _ o D.i2_z e) (h35.at fun o e => up _ o D.i3_z e) hT8 hs8 fun c o q0 q1 q2 q3 q4 e => up c o q0 (hk5 c o q0 q1 q2 q3 q4 e)
theorem zip3_end {z TI TO i1 i2 i3 l1 l2 l3 : Addr} {c1 c2 c3 : SK} {k : Nat} {ys1 ys2 ys3 : Array Value} {a1 a2 a3 : Value} {Q : Fin → Shared → Prop} (hh : A.handled = none) (D : ZA3 z TI TO i1 i2 i3 l1 l2 l3)
    (hz : IsZip s.heap z TI TO .none) (hTI : IsTO s.heap TI #[.ref i1, .ref i2, .ref i3]) (hTO : IsTO s.heap TO #[a1, a2, a3])
    (h1 : SIt c1 s.heap i1 l1 k) (h2 : SIt c2 s.heap i2 l2 k) (h3 : SIt c3 s.heap i3 l3 k) (hl1 : SSq c1 s.heap l1 ys1) (hl2 : SSq c2 s.heap l2 ys2) (hl3 : SSq c3 s.heap l3 ys3) (hend : ys1[k]? = none ∨ ys2[k]? = none ∨ ys3[k]? = none)
    (hE : ∀ h' e, (∀ c o, c ≠ z → c ≠ TO → c ≠ i1 → c ≠ i2 → c ≠ i3 → s.heap.get? c = some o → h'.get? c = some o) → (∃ o, h'.get? e = some o ∧ o.cls = .type "StopIteration") → E (.ref e) { s with heap := h' }) :
    wpAny (model prog w) A (Builtin.«zip.__next__» ⟨[.ref z], []⟩) Q E s := by
  show wpAny _ _ (field (.ref z) 2 >>= _) _ _ _
  refine wpAny_bind (wpAny_field hz rfl (x := .bool false) rfl ?_)
  show wpAny _ _ (field (.ref z) 3 >>= _) _ _ _
  refine wpAny_bind (wpAny_field hz rfl (x := .ref TI) rfl ?_)
  refine wpAny_bind (wpAny_seqItems hTI rfl ?_)
  show wpAny _ _ (Builtin.SmallTypes.ownedTupleIsFree (.ref z) >>= _) _ _ _
  refine wpAny_bind ?_
  unfold Builtin.SmallTypes.ownedTupleIsFree
  refine wpAny_bind (wpAny_field hz rfl (x := .none) rfl (wpAny_pure ?_))
  simp only [if_true]
  refine wpAny_bind (wpAny_rule ?_)
  refine wpAny_bind (wpAny_field hz rfl (x := .ref TO) rfl ?_)
  refine wpAny_bind (wpAny_setField_rec hz (by simp) fun g0 hz1 s0 => ?_)
  replace hz1 : IsZip g0 z TI TO .ellipsis := hz1
  refine wpAny_bind ?_
  simp only [List.zipIdx_cons, List.zipIdx_nil, List.forIn_cons, List.forIn_nil]
  refine wpAny_bind (wpAny_bind (wpAny_onRaise ?_))
  show wpAny _ _ (Builtin.SmallTypes.nextOf (.ref i1) >>= _) _ _ _
  cases hx1 : ys1[k]? with
  | none =>
    refine wpAny_bind (nextOf_end hh (SIt.extBut h1 s0.extBut D.i1_z) (SSq.extBut hl1 s0.extBut D.l1_z) hx1 fun f2 e t2 he => ?_)
    obtain ⟨oe, hoe, hce⟩ := he
    have hz2 : IsZip f2 z TI TO .ellipsis := (t2 _ _ D.i1_z.symm hz1)
    have hez : e ≠ z := fun x => by subst x; rw [hz2] at hoe; cases hoe; simp at hce
    refine wpAny_setField_rec hz2 (by simp) fun f3 _ t3 => hE f3 e (fun c o q0 q1 q2 q3 q4 x => t3.extBut _ _ q0 (t2 _ _ q2 (s0.extBut _ _ q0 x))) ⟨oe, t3.extBut _ _ hez hoe, hce⟩
  | some y1 =>
    refine wpAny_bind (nextOf_item (SIt.extBut h1 s0.extBut D.i1_z) (SSq.extBut hl1 s0.extBut D.l1_z) hx1 fun g1 h1' s1 => wpAny_pure ?_)
    have hTO1 : IsTO g1 TO #[a1, a2, a3] := (s1.extBut _ _ D.TO_i1 (s0.extBut _ _ D.TO_z hTO))
    refine wpAny_bind (wpAny_seqItems hTO1 rfl ?_)
    refine wpAny_bind (updateSeq_to hTO1 sz_ok fun g2 hTO2 s2 => ?_)
    replace hTO2 : IsTO g2 TO #[y1, a2, a3] := hTO2
    refine wpAny_bind (wpAny_letGo (wpAny_pure ?_))
    refine wpAny_bind (wpAny_bind (wpAny_onRaise ?_))
    show wpAny _ _ (Builtin.SmallTypes.nextOf (.ref i2) >>= _) _ _ _
    cases hx2 : ys2[k]? with
    | none =>
      refine wpAny_bind (nextOf_end hh (SIt.extBut (SIt.extBut (SIt.extBut h2 s0.extBut D.i2_z) s1.extBut D.i1_i2.symm) s2.extBut D.TO_i2.symm) (SSq.extBut (SSq.extBut (SSq.extBut hl2 s0.extBut D.l2_z) s1.extBut D.l2_i1) s2.extBut D.l2_TO) hx2 fun f2 e t2 he => ?_)
      obtain ⟨oe, hoe, hce⟩ := he
      have hz2 : IsZip f2 z TI TO .ellipsis := (t2 _ _ D.i2_z.symm (s2.extBut _ _ D.TO_z.symm (s1.extBut _ _ D.i1_z.symm hz1)))
      have hez : e ≠ z := fun x => by subst x; rw [hz2] at hoe; cases hoe; simp at hce
      refine wpAny_setField_rec hz2 (by simp) fun f3 _ t3 => hE f3 e (fun c o q0 q1 q2 q3 q4 x => t3.extBut _ _ q0 (t2 _ _ q3 (s2.extBut _ _ q1 (s1.extBut _ _ q2 (s0.extBut _ _ q0 x))))) ⟨oe, t3.extBut _ _ hez hoe, hce⟩
    | some y2 =>
      refine wpAny_bind (nextOf_item (SIt.extBut (SIt.extBut (SIt.extBut h2 s0.extBut D.i2_z) s1.extBut D.i1_i2.symm) s2.extBut D.TO_i2.symm) (SSq.extBut (SSq.extBut (SSq.extBut hl2 s0.extBut D.l2_z) s1.extBut D.l2_i1) s2.extBut D.l2_TO) hx2 fun g3 h2' s3 => wpAny_pure ?_)
      have hTO3 : IsTO g3 TO #[y1, a2, a3] := (s3.extBut _ _ D.TO_i2 hTO2)
      refine wpAny_bind (wpAny_seqItems hTO3 rfl ?_)
      refine wpAny_bind (updateSeq_to hTO3 sz_ok fun g4 hTO4 s4 => ?_)
      replace hTO4 : IsTO g4 TO #[y1, y2, a3] := hTO4
      refine wpAny_bind (wpAny_letGo (wpAny_pure ?_))
      refine wpAny_bind (wpAny_bind (wpAny_onRaise ?_))
      show wpAny _ _ (Builtin.SmallTypes.nextOf (.ref i3) >>= _) _ _ _
      cases hx3 : ys3[k]? with
      | none =>
        refine wpAny_bind (nextOf_end hh (SIt.extBut (SIt.extBut (SIt.extBut (SIt.extBut (SIt.extBut h3 s0.extBut D.i3_z) s1.extBut D.i1_i3.symm) s2.extBut D.TO_i3.symm) s3.extBut D.i2_i3.symm) s4.extBut D.TO_i3.symm) (SSq.extBut (SSq.extBut (SSq.extBut (SSq.extBut (SSq.extBut hl3 s0.extBut D.l3_z) s1.extBut D.l3_i1) s2.extBut D.l3_TO) s3.extBut D.l3_i2) s4.extBut D.l3_TO) hx3 fun f2 e t2 he => ?_)
        obtain ⟨oe, hoe, hce⟩ := he
        have hz2 : IsZip f2 z TI TO .ellipsis := (t2 _ _ D.i3_z.symm (s4.extBut _ _ D.TO_z.symm (s3.extBut _ _ D.i2_z.symm (s2.extBut _ _ D.TO_z.symm (s1.extBut _ _ D.i1_z.symm hz1)))))
        have hez : e ≠ z := fun x => by subst x; rw [hz2] at hoe; cases hoe; simp at hce
        refine wpAny_setField_rec hz2 (by simp) fun f3 _ t3 => hE f3 e (fun c o q0 q1 q2 q3 q4 x => t3.extBut _ _ q0 (t2 _ _ q4 (s4.extBut _ _ q1 (s3.extBut _ _ q3 (s2.extBut _ _ q1 (s1.extBut _ _ q2 (s0.extBut _ _ q0 x))))))) ⟨oe, t3.extBut _ _ hez hoe, hce⟩
      | some y3 =>
        exfalso
        rw [hx1, hx2, hx3] at hend
        simp at hend
theorem pyNext_zip3_item {z TI TO i1 i2 i3 l1 l2 l3 : Addr} {c1 c2 c3 : SK} {k : Nat} {ys1 ys2 ys3 : Array Value} {y1 y2 y3 a1 a2 a3 : Value} {Q : Option Value → Shared → Prop} (D : ZA3 z TI TO i1 i2 i3 l1 l2 l3)
    (hz : IsZip s.heap z TI TO .none) (hTI : IsTO s.heap TI #[.ref i1, .ref i2, .ref i3]) (hTO : IsTO s.heap TO #[a1, a2, a3])
    (h1 : SIt c1 s.heap i1 l1 k) (h2 : SIt c2 s.heap i2 l2 k) (h3 : SIt c3 s.heap i3 l3 k) (hl1 : SSq c1 s.heap l1 ys1) (hl2 : SSq c2 s.heap l2 ys2) (hl3 : SSq c3 s.heap l3 ys3) (hx1 : ys1[k]? = some y1) (hx2 : ys2[k]? = some y2) (hx3 : ys3[k]? = some y3)
    (hQ : (∀ h', IsZip h' z TI TO (rawInt s.heap.objs.size) → IsTO h' TO #[y1, y2, y3] → SIt c1 h' i1 l1 (k + 1) → SIt c2 h' i2 l2 (k + 1) → SIt c3 h' i3 l3 (k + 1) → IsTO h' s.heap.objs.size #[y1, y2, y3] → h'.objs.size = s.heap.objs.size + 1 →
      (∀ c o, c ≠ z → c ≠ TO → c ≠ i1 → c ≠ i2 → c ≠ i3 → s.heap.get? c = some o → h'.get? c = some o) → Q (some (.ref s.heap.objs.size)) { s with heap := h' })) :
    wpAny (model prog w) A (pyNext (.ref z)) Q E s := by
  have hT : s.TypeIs (.ref z) "zip" := ⟨_, hz, rfl⟩
  unfold pyNext
  exact wpAny_bind (wpAny_attempt (wpAny_callSpecial?_slot (name := Str.ofString "__next__") hT F.slot_zip_next
    (wpAny_call_entry F.slot_zip_next hT F.entry_zip_next
      (zip3_item D hz hTI hTO h1 h2 h3 hl1 hl2 hl3 hx1 hx2 hx3 fun h' b0 b1 b2 b3 b4 b5 b6 b7 => wpAny_pure (hQ h' b0 b1 b2 b3 b4 b5 b6 b7)) (F.args_zip_next_1 _))))
theorem pyNext_zip3_end {z TI TO i1 i2 i3 l1 l2 l3 : Addr} {c1 c2 c3 : SK} {k : Nat} {ys1 ys2 ys3 : Array Value} {a1 a2 a3 : Value} {Q : Option Value → Shared → Prop} (hh : A.handled = none) (D : ZA3 z TI TO i1 i2 i3 l1 l2 l3)
    (hz : IsZip s.heap z TI TO .none) (hTI : IsTO s.heap TI #[.ref i1, .ref i2, .ref i3]) (hTO : IsTO s.heap TO #[a1, a2, a3])
    (h1 : SIt c1 s.heap i1 l1 k) (h2 : SIt c2 s.heap i2 l2 k) (h3 : SIt c3 s.heap i3 l3 k) (hl1 : SSq c1 s.heap l1 ys1) (hl2 : SSq c2 s.heap l2 ys2) (hl3 : SSq c3 s.heap l3 ys3) (hend : ys1[k]? = none ∨ ys2[k]? = none ∨ ys3[k]? = none)
    (hQ : ∀ h', (∀ c o, c ≠ z → c ≠ TO → c ≠ i1 → c ≠ i2 → c ≠ i3 → s.heap.get? c = some o → h'.get? c = some o) → Q none { s with heap := h' }) : wpAny (model prog w) A (pyNext (.ref z)) Q E s := by
  have hT : s.TypeIs (.ref z) "zip" := ⟨_, hz, rfl⟩
  unfold pyNext
  refine wpAny_bind (wpAny_attempt (wpAny_callSpecial?_slot (name := Str.ofString "__next__") hT F.slot_zip_next
    (wpAny_call_entry F.slot_zip_next hT F.entry_zip_next (zip3_end hh D hz hTI hTO h1 h2 h3 hl1 hl2 hl3 hend fun h' e hk he => ?_) (F.args_zip_next_1 _))))
  obtain ⟨o, ho, hc⟩ := he
  refine wpAny_bind (wpAny_isInstance (T := "StopIteration") (b := true) ⟨o, ho, hc⟩ isSubtype_stop ?_)
  exact wpAny_pure (hQ _ hk)
abbrev zH3_1 (h : Heap) (c1 : SK) (l1 : Addr) : Heap := h.push (c1.obj l1)
abbrev zH3_2 (h : Heap) (c1 : SK) (l1 : Addr) (c2 : SK) (l2 : Addr) : Heap := (zH3_1 h c1 l1).push (c2.obj l2)
abbrev zH3_3 (h : Heap) (c1 : SK) (l1 : Addr) (c2 : SK) (l2 : Addr) (c3 : SK) (l3 : Addr) : Heap := (zH3_2 h c1 l1 c2 l2).push (c3.obj l3)
abbrev zH3_4 (h : Heap) (c1 : SK) (l1 : Addr) (c2 : SK) (l2 : Addr) (c3 : SK) (l3 : Addr) : Heap := (zH3_3 h c1 l1 c2 l2 c3 l3).push { cls := .type "tuple", data := .seq #[.ref h.objs.size, .ref (zH3_1 h c1 l1).objs.size, .ref (zH3_2 h c1 l1 c2 l2).objs.size] }
abbrev zH3_5 (h : Heap) (c1 : SK) (l1 : Addr) (c2 : SK) (l2 : Addr) (c3 : SK) (l3 : Addr) : Heap := (zH3_4 h c1 l1 c2 l2 c3 l3).push { cls := .type "tuple", data := .seq #[.none, .none, .none] }
abbrev zH3_6 (h : Heap) (c1 : SK) (l1 : Addr) (c2 : SK) (l2 : Addr) (c3 : SK) (l3 : Addr) : Heap := (zH3_5 h c1 l1 c2 l2 c3 l3).push { cls := .type "zip", data := .fields #[.none, .bool false, .bool false, .ref (zH3_3 h c1 l1 c2 l2 c3 l3).objs.size, .ref (zH3_4 h c1 l1 c2 l2 c3 l3).objs.size] }
theorem meets_zip3 (c1 : SK) (l1 : Addr) (c2 : SK) (l2 : Addr) (c3 : SK) (l3 : Addr) (ys1 ys2 ys3 : Array Value) :
    Meets (Builtin.«zip.__new__» ⟨[.type "zip", .ref l1, .ref l2, .ref l3], []⟩) (fun _ R s => SSq c1 s.heap l1 ys1 ∧ SSq c2 s.heap l2 ys2 ∧ SSq c3 s.heap l3 ys3 ∧
      R (.ok (.ret (.ref (zH3_5 s.heap c1 l1 c2 l2 c3 l3).objs.size))) { s with heap := zH3_6 s.heap c1 l1 c2 l2 c3 l3 }) :=
  .of_wp fun prog w A R s h => by
    obtain ⟨hp, g, d, tk, os⟩ := s; obtain ⟨hl1, hl2, hl3, h⟩ := h
    have hsub := sub_zip
    have hL1 : SSq c1 (Shared.heap ⟨hp, g, d, tk, os⟩) l1 ys1 := hl1
    have hL2 : SSq c2 (Shared.heap ⟨(zH3_1 hp c1 l1), g, d, tk, os⟩) l2 ys2 := (SSq.push hl2 _)
    have hL3 : SSq c3 (Shared.heap ⟨(zH3_2 hp c1 l1 c2 l2), g, d, tk, os⟩) l3 ys3 := (SSq.push (SSq.push hl3 _) _)
    wp_walk using pyIter_seq hL1, pyIter_seq hL2, pyIter_seq hL3
    exact ⟨_, rfl, h⟩
theorem call_zip3 {c1 : SK} {l1 : Addr} {c2 : SK} {l2 : Addr} {c3 : SK} {l3 : Addr} {ys1 ys2 ys3 : Array Value} {Q : Value → Shared → Prop} (hl1 : SSq c1 s.heap l1 ys1) (hl2 : SSq c2 s.heap l2 ys2) (hl3 : SSq c3 s.heap l3 ys3)
    (h : ∀ h', IsZip h' (s.heap.objs.size + 5) (s.heap.objs.size + 3) (s.heap.objs.size + 4) .none → IsTO h' (s.heap.objs.size + 3) #[.ref s.heap.objs.size, .ref (s.heap.objs.size + 1), .ref (s.heap.objs.size + 2)] → IsTO h' (s.heap.objs.size + 4) #[.none, .none, .none] → SIt c1 h' s.heap.objs.size l1 0 → SIt c2 h' (s.heap.objs.size + 1) l2 0 → SIt c3 h' (s.heap.objs.size + 2) l3 0 → h'.objs.size = s.heap.objs.size + 6 →
      (∀ c o, s.heap.get? c = some o → h'.get? c = some o) → Q (.ref (s.heap.objs.size + 5)) { s with heap := h' }) :
    wpAny (model prog w) A (call (.type "zip") [.ref l1, .ref l2, .ref l3]) Q E s := by
  refine callType_new F.called_zip (by decide) (typeCall_zip_3 _ _ _) (newCall_zip_3 _ _ _) (fun obj => args_object_init_4 obj _ _ _) F.entry_zip_new
    (meets_zip3 c1 l1 c2 l2 c3 l3 ys1 ys2 ys3) ⟨hl1, hl2, hl3, ?_⟩
  have z1 : (zH3_1 s.heap c1 l1).objs.size = s.heap.objs.size + 1 := Heap.size_push ..
  have z2 : (zH3_2 s.heap c1 l1 c2 l2).objs.size = s.heap.objs.size + 2 := by rw [Heap.size_push, z1]
  have z3 : (zH3_3 s.heap c1 l1 c2 l2 c3 l3).objs.size = s.heap.objs.size + 3 := by rw [Heap.size_push, z2]
  have z4 : (zH3_4 s.heap c1 l1 c2 l2 c3 l3).objs.size = s.heap.objs.size + 4 := by rw [Heap.size_push, z3]
  have z5 : (zH3_5 s.heap c1 l1 c2 l2 c3 l3).objs.size = s.heap.objs.size + 5 := by rw [Heap.size_push, z4]
  have z6 : (zH3_6 s.heap c1 l1 c2 l2 c3 l3).objs.size = s.heap.objs.size + 6 := by rw [Heap.size_push, z5]
  have g1 : (zH3_6 s.heap c1 l1 c2 l2 c3 l3).get? s.heap.objs.size = some _ := (Heap.get?_push_of_some _ (Heap.get?_push_of_some _ (Heap.get?_push_of_some _ (Heap.get?_push_of_some _ (Heap.get?_push_of_some _ (Heap.get?_push_size _ (by first | rfl | exact SK.nf _ _)))))))
  have g2 : (zH3_6 s.heap c1 l1 c2 l2 c3 l3).get? (zH3_1 s.heap c1 l1).objs.size = some _ := (Heap.get?_push_of_some _ (Heap.get?_push_of_some _ (Heap.get?_push_of_some _ (Heap.get?_push_of_some _ (Heap.get?_push_size _ (by first | rfl | exact SK.nf _ _))))))
  have g3 : (zH3_6 s.heap c1 l1 c2 l2 c3 l3).get? (zH3_2 s.heap c1 l1 c2 l2).objs.size = some _ := (Heap.get?_push_of_some _ (Heap.get?_push_of_some _ (Heap.get?_push_of_some _ (Heap.get?_push_size _ (by first | rfl | exact SK.nf _ _)))))
  have g4 : (zH3_6 s.heap c1 l1 c2 l2 c3 l3).get? (zH3_3 s.heap c1 l1 c2 l2 c3 l3).objs.size = some _ := (Heap.get?_push_of_some _ (Heap.get?_push_of_some _ (Heap.get?_push_size _ (by first | rfl | exact SK.nf _ _))))
  have g5 : (zH3_6 s.heap c1 l1 c2 l2 c3 l3).get? (zH3_4 s.heap c1 l1 c2 l2 c3 l3).objs.size = some _ := (Heap.get?_push_of_some _ (Heap.get?_push_size _ (by first | rfl | exact SK.nf _ _)))
  have g6 : (zH3_6 s.heap c1 l1 c2 l2 c3 l3).get? (zH3_5 s.heap c1 l1 c2 l2 c3 l3).objs.size = some _ := (Heap.get?_push_size _ (by first | rfl | exact SK.nf _ _))
  show _ ∧ _
  rw [z3, z4, z5] at g6
  rw [z3, z1, z2] at g4
  rw [z4] at g5
  rw [z1] at g2
  rw [z2] at g3
  rw [z5]
  exact ⟨⟨_, g6, rfl⟩, h _ g6 g4 g5 (SK.it g1) (SK.it g2) (SK.it g3) z6 fun c o x => (Heap.get?_push_of_some _ (Heap.get?_push_of_some _ (Heap.get?_push_of_some _ (Heap.get?_push_of_some _ (Heap.get?_push_of_some _ (Heap.get?_push_of_some _ x))))))⟩
end
def SqK : SK → PySem.W.Frag → Hp → Addr → List V → Prop
  | .l => SqL
  | .t => SqT
theorem seqK {X : Cx} {pins : List (Addr × Obj)} {σ : L2.St} {H : Hp} {s : Shared} (I : Inv X pins σ H s) : ∀ {c : SK} {a : Addr} {xs : List V}, SqK c X.K H a xs → ∃ its : List Value, Vals xs its ∧ SSq c s.heap a its.toArray
  | .l, _, _, q => let ⟨its, r, p, _⟩ := I.list q; ⟨its, r, p.isList⟩
  | .t, _, _, q => let ⟨its, r, p, _⟩ := I.tuple q; ⟨its, r, p⟩
theorem seqK_inj {X : Cx} {pins : List (Addr × Obj)} {σ : L2.St} {H : Hp} {s : Shared} (I : Inv X pins σ H s) : ∀ {c : SK} {a : Addr} {xs ys : List V}, SqK c X.K H a xs → SqK c X.K H a ys → xs = ys
  | .l, _, _, _, q, q' => I.list_inj q q'
  | .t, _, _, _, q, q' => I.tuple_inj q q'
theorem cr_sumT {X : Cx} (hc : X.calm = true) : CallR X (.builtin "sum") (fun vs H Q => ∃ (a : Addr) (ns : List Int), vs = [V.ref a] ∧ SqT X.K H a (ns.map V.int) ∧ Q (.int ns.sum) H) := by
  intro pins s σ H vs us Q I r h
  obtain ⟨a, ns, rfl, hs, q⟩ := h
  obtain ⟨its, rv, hl, _⟩ := I.tuple hs
  rw [Vals.ref1 r]
  have hi := rv.ints
  obtain ⟨xs, e⟩ := hi.allInts.items
  have hn : numsOf (intItems xs).toList = ns := by rw [← e]; exact hi.numsOf
  rw [nums_intItems] at hn
  have hl' : s.heap.IsTuple a its.toArray := hl
  rw [e] at hl'
  refine sum_tup (I.ok.hd hc) hl' fun h' tk t' hk => ?_
  rw [preSum_eq, List.take_of_length_le (by simp), hn]
  exact ⟨.int _, H, I.kept hk, ⟨_, rfl⟩, q⟩
def ItZ2 (K : PySem.W.Frag) (c1 c2 : SK) (b1 b2 : Addr) : It :=
  ⟨fun i H => ∃ (xs1 xs2 : List V) (x1 x2 : V), SqK c1 K H b1 xs1 ∧ SqK c2 K H b2 xs2 ∧ xs1[i]? = some x1 ∧ xs2[i]? = some x2,
    fun i H v H' => ∃ T x1 x2, v = .ref T ∧ H T = none ∧ H' = upd H T (.tup [x1, x2]) ∧ (∀ xs, SqK c1 K H b1 xs → xs[i]? = some x1) ∧ (∀ xs, SqK c2 K H b2 xs → xs[i]? = some x2),
    fun i H => ∃ xs1 xs2 : List V, SqK c1 K H b1 xs1 ∧ SqK c2 K H b2 xs2 ∧ (xs1.length ≤ i ∨ xs2.length ≤ i)⟩
theorem turnZ2 {P : Program} {w : World} {K : PySem.W.Frag} {elts : List Expr} {kk : Nat} {tpos : Pos} {c1 c2 : SK} {b1 b2 z TI TO i1 i2 : Addr} (D : ZA2 z TI TO i1 i2 b1 b2) :
    Turn P w K (.Tuple elts kk tpos) (ItZ2 K c1 c2 b1 b2) [z, TI, TO, i1, i2] z (fun i h => IsZip h z TI TO .none ∧ IsTO h TI #[.ref i1, .ref i2] ∧ (∃ x1 x2, IsTO h TO #[x1, x2]) ∧ SIt c1 h i1 b1 i ∧ SIt c2 h i2 b2 i) where
  mem := by simp
  obj := fun i h st c hc => by
    obtain ⟨hz, hTI, ⟨x1, x2, hTO⟩, h1, h2⟩ := st
    have e' : c = z ∨ c = TI ∨ c = TO ∨ c = i1 ∨ c = i2 := by simpa using hc
    rcases e' with q | q | q | q | q
    · rw [q]; exact ⟨_, hz, fun v q => nomatch q⟩
    · rw [q]; exact ⟨_, hTI, fun v q => nomatch q⟩
    · rw [q]; exact ⟨_, hTO, fun v q => nomatch q⟩
    · rw [q]; exact h1.obj
    · rw [q]; exact h2.obj
  keep := fun i h h' st k => by
    obtain ⟨hz, hTI, ⟨x1, x2, hTO⟩, h1, h2⟩ := st
    exact ⟨k z (by simp) _ hz, k TI (by simp) _ hTI, ⟨x1, x2, k TO (by simp) _ hTO⟩, h1.at fun o q => k i1 (by simp) o q, h2.at fun o q => k i2 (by simp) o q⟩
  item := by
    intro X hP hw hK hc i pins s σ H E I hf st hg
    subst hP hw hK
    obtain ⟨hz, hTI, ⟨w1, w2, hTO⟩, h1, h2⟩ := st
    obtain ⟨xs1, xs2, x1, x2, q1, q2, hx1, hx2⟩ := hg
    obtain ⟨its1, rv1, p1⟩ := seqK I q1
    obtain ⟨its2, rv2, p2⟩ := seqK I q2
    obtain ⟨u1, hu1, ru1⟩ := rv1.get hx1
    obtain ⟨u2, hu2, ru2⟩ := rv2.get hx2
    have hzl : z < s.heap.objs.size := Heap.lt_size hz
    refine pyNext_zip2_item D hz hTI hTO h1 h2 p1 p2 (by simpa using hu1) (by simpa using hu2) fun h' z' TO' h1' h2' hT hsz hk => ?_
    refine ⟨_, rfl, wpAny_letOwnedTupleGo_zip (s := { s with heap := h' }) z' fun h'' z'' sb => ?_⟩
    have hT2 : h''.get? s.heap.objs.size = some { cls := .type "tuple", data := .seq #[u1, u2] } := (sb.2 _ (Nat.ne_of_gt hzl)).trans hT
    have new : ObjOk X.prog X.w (upd H s.heap.objs.size (.tup [x1, x2])) h'' s.heap.objs.size (.tup [x1, x2]) :=
      ⟨by show 2 ≤ sizeLine; decide, [u1, u2], .cons ru1 (.cons ru2 .nil), ⟨_, hT2, rfl, _, rfl⟩⟩
    have I1 : Inv X pins σ (upd H s.heap.objs.size (.tup [x1, x2])) { s with heap := h'' } :=
      I.turnedNew (t' := s.toks) (ch := [z, TI, TO, i1, i2]) (fun c o hb q => (sb.2 c (fun q' => hb (by simp [q']))).trans (hk c o (fun q' => hb (by simp [q'])) (fun q' => hb (by simp [q'])) (fun q' => hb (by simp [q'])) (fun q' => hb (by simp [q'])) q)) hf (Nat.le_refl _) new
    refine ⟨.ref s.heap.objs.size, _, I1, rfl, ⟨_, x1, x2, rfl, I.hok.fresh (Nat.le_refl _), rfl, fun l hl => by rw [seqK_inj I hl q1]; exact hx1, fun l hl => by rw [seqK_inj I hl q2]; exact hx2⟩, ⟨z'', ?_, ⟨u1, u2, ?_⟩, ?_, ?_⟩, fun c hcm => ?_⟩
    · exact (sb.2 _ D.TI_z).trans (hk _ _ D.TI_z D.TI_TO D.TI_i1 D.TI_i2 hTI)
    · exact (sb.2 _ D.TO_z).trans TO'
    · exact h1'.at fun o q => (sb.2 _ D.i1_z).trans q
    · exact h2'.at fun o q => (sb.2 _ D.i2_z).trans q
    · have hlt : c < s.heap.objs.size := by
        have e' : c = z ∨ c = TI ∨ c = TO ∨ c = i1 ∨ c = i2 := by simpa using hcm
        rcases e' with q | q | q | q | q
        · rw [q]; exact hzl
        · rw [q]; exact Heap.lt_size hTI
        · rw [q]; exact Heap.lt_size hTO
        · rw [q]; exact h1.lt
        · rw [q]; exact h2.lt
      rw [upd_ne (Nat.ne_of_lt hlt)]
      exact (hf c hcm).1
  done := by
    intro X hP hw hK hc i pins s σ H E I hf st hg
    subst hP hw hK
    obtain ⟨hz, hTI, ⟨w1, w2, hTO⟩, h1, h2⟩ := st
    obtain ⟨xs1, xs2, q1, q2, hend⟩ := hg
    obtain ⟨its1, rv1, p1⟩ := seqK I q1
    obtain ⟨its2, rv2, p2⟩ := seqK I q2
    have l1 := rv1.length
    have l2 := rv2.length
    have he : its1.toArray[i]? = none ∨ its2.toArray[i]? = none := by
      rcases hend with q | q
      · exact .inl (by simp; omega)
      · exact .inr ((by simp; omega))
    exact pyNext_zip2_end (I.ok.hd hc) D hz hTI hTO h1 h2 p1 p2 he fun h' hk => ⟨rfl, I.turnedL (t' := s.toks) (ch := [z, TI, TO, i1, i2]) (fun c o hb q =>
      hk c o (fun q' => hb (by simp [q'])) (fun q' => hb (by simp [q'])) (fun q' => hb (by simp [q'])) (fun q' => hb (by simp [q'])) q) hf⟩
  self := fun A i s Q E st h => wpAny_pyIter_zip st.1 h
def iZ2 (K : PySem.W.Frag) (ta : TA) : TI := fun σ H R => ta σ H fun vs H1 => ∃ c1 c2 b1 b2 xs1 xs2, vs = [.ref b1, .ref b2] ∧ SqK c1 K H1 b1 xs1 ∧ SqK c2 K H1 b2 xs2 ∧ R (ItZ2 K c1 c2 b1 b2) H1
theorem pi_z2 {X : Cx} {e1 e2 : Expr} {ta : TA} {p pos tpos : Pos} {elts : List Expr} {kk : Nat} (hg : Gl X "zip") (hm : X.mg "zip" = none) (ha : PA X [e1, e2] ta)
    (hs : starEach [e1, e2] X.env = (false, eval e1 X.env) :: starEach [e2] X.env) (hpl : (backTo pos (starEach [e2] X.env)).any (·.1) = false) :
    PI X (.Tuple elts kk tpos) (.Call (.Name "zip" p) [e1, e2] [] pos) (iZ2 X.K ta) := by
  refine ⟨fun pins s σ H R I h => ?_⟩
  refine Call_ (ld_blt I hg hm PyProof.Rows.boot_zip (PyProof.Rows.callWith_type1 (thn (ha.run pos pins s σ H _ I h) fun us s1 ⟨vs, H1, I1, r1, q1⟩ => ?_) hs hpl))
  obtain ⟨c1, c2, b1, b2, xs1, xs2, ex, q1, q2, q⟩ := q1
  subst ex
  obtain rfl : us = [.ref b1, .ref b2] := by
    cases r1 with
    | cons r t =>
      cases t with
      | cons r2 t2 =>
        cases t2; cases r; cases r2; rfl
  obtain ⟨its1, rv1, p1⟩ := seqK I1 q1
  obtain ⟨its2, rv2, p2⟩ := seqK I1 q2
  have fresh5 : ∀ c, c ∈ [s1.heap.objs.size + 4, s1.heap.objs.size + 2, s1.heap.objs.size + 3, s1.heap.objs.size, s1.heap.objs.size + 1] → FpOk X pins H1 c := fun c hcm => by
    have hle : s1.heap.objs.size ≤ c := by
      have e' : c = s1.heap.objs.size + 4 ∨ c = s1.heap.objs.size + 2 ∨ c = s1.heap.objs.size + 3 ∨ c = s1.heap.objs.size ∨ c = s1.heap.objs.size + 1 := by simpa using hcm
      omega
    exact I1.fpOk hle (I1.hok.fresh hle)
  refine call_zip2 p1 p2 fun h' hz hTI hTO h1 h2 hsz hk => wpAny_pyIter_zip hz ?_
  have I2 : Inv X pins σ H1 { s1 with heap := h' } := I1.kept (t' := s1.toks) hk
  exact ⟨s1.heap.objs.size + 4, [s1.heap.objs.size + 4, s1.heap.objs.size + 2, s1.heap.objs.size + 3, s1.heap.objs.size, s1.heap.objs.size + 1], _, _, H1, rfl, I2, turnZ2 (za2 p1.lt p2.lt), ⟨hz, hTI, ⟨_, _, hTO⟩, h1, h2⟩, fun c hc => fresh5 c hc, q⟩
def ItZ3 (K : PySem.W.Frag) (c1 c2 c3 : SK) (b1 b2 b3 : Addr) : It :=
  ⟨fun i H => ∃ (xs1 xs2 xs3 : List V) (x1 x2 x3 : V), SqK c1 K H b1 xs1 ∧ SqK c2 K H b2 xs2 ∧ SqK c3 K H b3 xs3 ∧ xs1[i]? = some x1 ∧ xs2[i]? = some x2 ∧ xs3[i]? = some x3,
    fun i H v H' => ∃ T x1 x2 x3, v = .ref T ∧ H T = none ∧ H' = upd H T (.tup [x1, x2, x3]) ∧ (∀ xs, SqK c1 K H b1 xs → xs[i]? = some x1) ∧ (∀ xs, SqK c2 K H b2 xs → xs[i]? = some x2) ∧ (∀ xs, SqK c3 K H b3 xs → xs[i]? = some x3),
    fun i H => ∃ xs1 xs2 xs3 : List V, SqK c1 K H b1 xs1 ∧ SqK c2 K H b2 xs2 ∧ SqK c3 K H b3 xs3 ∧ (xs1.length ≤ i ∨ xs2.length ≤ i ∨ xs3.length ≤ i)⟩
theorem turnZ3 {P : Program} {w : World} {K : PySem.W.Frag} {elts : List Expr} {kk : Nat} {tpos : Pos} {c1 c2 c3 : SK} {b1 b2 b3 z TI TO i1 i2 i3 : Addr} (D : ZA3 z TI TO i1 i2 i3 b1 b2 b3) :
    Turn P w K (.Tuple elts kk tpos) (ItZ3 K c1 c2 c3 b1 b2 b3) [z, TI, TO, i1, i2, i3] z (fun i h => IsZip h z TI TO .none ∧ IsTO h TI #[.ref i1, .ref i2, .ref i3] ∧ (∃ x1 x2 x3, IsTO h TO #[x1, x2, x3]) ∧ SIt c1 h i1 b1 i ∧ SIt c2 h i2 b2 i ∧ SIt c3 h i3 b3 i) where
  mem := by simp
  obj := fun i h st c hc => by
    obtain ⟨hz, hTI, ⟨x1, x2, x3, hTO⟩, h1, h2, h3⟩ := st
    have e' : c = z ∨ c = TI ∨ c = TO ∨ c = i1 ∨ c = i2 ∨ c = i3 := by simpa using hc
    rcases e' with q | q | q | q | q | q
    · rw [q]; exact ⟨_, hz, fun v q => nomatch q⟩
    · rw [q]; exact ⟨_, hTI, fun v q => nomatch q⟩
    · rw [q]; exact ⟨_, hTO, fun v q => nomatch q⟩
    · rw [q]; exact h1.obj
    · rw [q]; exact h2.obj
    · rw [q]; exact h3.obj
  keep := fun i h h' st k => by
    obtain ⟨hz, hTI, ⟨x1, x2, x3, hTO⟩, h1, h2, h3⟩ := st
    exact ⟨k z (by simp) _ hz, k TI (by simp) _ hTI, ⟨x1, x2, x3, k TO (by simp) _ hTO⟩, h1.at fun o q => k i1 (by simp) o q, h2.at fun o q => k i2 (by simp) o q, h3.at fun o q => k i3 (by simp) o q⟩
  item := by
    intro X hP hw hK hc i pins s σ H E I hf st hg
    subst hP hw hK
    obtain ⟨hz, hTI, ⟨w1, w2, w3, hTO⟩, h1, h2, h3⟩ := st
    obtain ⟨xs1, xs2, xs3, x1, x2, x3, q1, q2, q3, hx1, hx2, hx3⟩ := hg
    obtain ⟨its1, rv1, p1⟩ := seqK I q1
    obtain ⟨its2, rv2, p2⟩ := seqK I q2
    obtain ⟨its3, rv3, p3⟩ := seqK I q3
    obtain ⟨u1, hu1, ru1⟩ := rv1.get hx1
    obtain ⟨u2, hu2, ru2⟩ := rv2.get hx2
    obtain ⟨u3, hu3, ru3⟩ := rv3.get hx3
    have hzl : z < s.heap.objs.size := Heap.lt_size hz
    refine pyNext_zip3_item D hz hTI hTO h1 h2 h3 p1 p2 p3 (by simpa using hu1) (by simpa using hu2) (by simpa using hu3) fun h' z' TO' h1' h2' h3' hT hsz hk => ?_
    refine ⟨_, rfl, wpAny_letOwnedTupleGo_zip (s := { s with heap := h' }) z' fun h'' z'' sb => ?_⟩
    have hT2 : h''.get? s.heap.objs.size = some { cls := .type "tuple", data := .seq #[u1, u2, u3] } := (sb.2 _ (Nat.ne_of_gt hzl)).trans hT
    have new : ObjOk X.prog X.w (upd H s.heap.objs.size (.tup [x1, x2, x3])) h'' s.heap.objs.size (.tup [x1, x2, x3]) :=
      ⟨by show 3 ≤ sizeLine; decide, [u1, u2, u3], .cons ru1 (.cons ru2 (.cons ru3 .nil)), ⟨_, hT2, rfl, _, rfl⟩⟩
    have I1 : Inv X pins σ (upd H s.heap.objs.size (.tup [x1, x2, x3])) { s with heap := h'' } :=
      I.turnedNew (t' := s.toks) (ch := [z, TI, TO, i1, i2, i3]) (fun c o hb q => (sb.2 c (fun q' => hb (by simp [q']))).trans (hk c o (fun q' => hb (by simp [q'])) (fun q' => hb (by simp [q'])) (fun q' => hb (by simp [q'])) (fun q' => hb (by simp [q'])) (fun q' => hb (by simp [q'])) q)) hf (Nat.le_refl _) new
    refine ⟨.ref s.heap.objs.size, _, I1, rfl, ⟨_, x1, x2, x3, rfl, I.hok.fresh (Nat.le_refl _), rfl, fun l hl => by rw [seqK_inj I hl q1]; exact hx1, fun l hl => by rw [seqK_inj I hl q2]; exact hx2, fun l hl => by rw [seqK_inj I hl q3]; exact hx3⟩, ⟨z'', ?_, ⟨u1, u2, u3, ?_⟩, ?_, ?_, ?_⟩, fun c hcm => ?_⟩
    · exact (sb.2 _ D.TI_z).trans (hk _ _ D.TI_z D.TI_TO D.TI_i1 D.TI_i2 D.TI_i3 hTI)
    · exact (sb.2 _ D.TO_z).trans TO'
    · exact h1'.at fun o q => (sb.2 _ D.i1_z).trans q
    · exact h2'.at fun o q => (sb.2 _ D.i2_z).trans q
    · exact h3'.at fun o q => (sb.2 _ D.i3_z).trans q
    · have hlt : c < s.heap.objs.size := by
        have e' : c = z ∨ c = TI ∨ c = TO ∨ c = i1 ∨ c = i2 ∨ c = i3 := by simpa using hcm
        rcases e' with q | q | q | q | q | q
        · rw [q]; exact hzl
        · rw [q]; exact Heap.lt_size hTI
        · rw [q]; exact Heap.lt_size hTO
        · rw [q]; exact h1.lt
        · rw [q]; exact h2.lt
        · rw [q]; exact h3.lt
      rw [upd_ne (Nat.ne_of_lt hlt)]
      exact (hf c hcm).1
  done := by
    intro X hP hw hK hc i pins s σ H E I hf st hg
    subst hP hw hK
    obtain ⟨hz, hTI, ⟨w1, w2, w3, hTO⟩, h1, h2, h3⟩ := st
    obtain ⟨xs1, xs2, xs3, q1, q2, q3, hend⟩ := hg
    obtain ⟨its1, rv1, p1⟩ := seqK I q1
    obtain ⟨its2, rv2, p2⟩ := seqK I q2
    obtain ⟨its3, rv3, p3⟩ := seqK I q3
    have l1 := rv1.length
    have l2 := rv2.length
    have l3 := rv3.length
    have he : its1.toArray[i]? = none ∨ its2.toArray[i]? = none ∨ its3.toArray[i]? = none := by
      rcases hend with q | q | q
      · exact .inl (by simp; omega)
      · exact .inr (.inl (by simp; omega))
      · exact .inr (.inr ((by simp; omega)))
    exact pyNext_zip3_end (I.ok.hd hc) D hz hTI hTO h1 h2 h3 p1 p2 p3 he fun h' hk => ⟨rfl, I.turnedL (t' := s.toks) (ch := [z, TI, TO, i1, i2, i3]) (fun c o hb q =>
      hk c o (fun q' => hb (by simp [q'])) (fun q' => hb (by simp [q'])) (fun q' => hb (by simp [q'])) (fun q' => hb (by simp [q'])) (fun q' => hb (by simp [q'])) q) hf⟩
  self := fun A i s Q E st h => wpAny_pyIter_zip st.1 h
def iZ3 (K : PySem.W.Frag) (ta : TA) : TI := fun σ H R => ta σ H fun vs H1 => ∃ c1 c2 c3 b1 b2 b3 xs1 xs2 xs3, vs = [.ref b1, .ref b2, .ref b3] ∧ SqK c1 K H1 b1 xs1 ∧ SqK c2 K H1 b2 xs2 ∧ SqK c3 K H1 b3 xs3 ∧ R (ItZ3 K c1 c2 c3 b1 b2 b3) H1
theorem pi_z3 {X : Cx} {e1 e2 e3 : Expr} {ta : TA} {p pos tpos : Pos} {elts : List Expr} {kk : Nat} (hg : Gl X "zip") (hm : X.mg "zip" = none) (ha : PA X [e1, e2, e3] ta)
    (hs : starEach [e1, e2, e3] X.env = (false, eval e1 X.env) :: starEach [e2, e3] X.env) (hpl : (backTo pos (starEach [e2, e3] X.env)).any (·.1) = false) :
    PI X (.Tuple elts kk tpos) (.Call (.Name "zip" p) [e1, e2, e3] [] pos) (iZ3 X.K ta) := by
  refine ⟨fun pins s σ H R I h => ?_⟩
  refine Call_ (ld_blt I hg hm PyProof.Rows.boot_zip (PyProof.Rows.callWith_type1 (thn (ha.run pos pins s σ H _ I h) fun us s1 ⟨vs, H1, I1, r1, q1⟩ => ?_) hs hpl))
  obtain ⟨c1, c2, c3, b1, b2, b3, xs1, xs2, xs3, ex, q1, q2, q3, q⟩ := q1
  subst ex
  obtain rfl : us = [.ref b1, .ref b2, .ref b3] := by
    cases r1 with
    | cons r t =>
      cases t with
      | cons r2 t2 =>
        cases t2 with
        | cons r3 t3 => cases t3; cases r; cases r2; cases r3; rfl
  obtain ⟨its1, rv1, p1⟩ := seqK I1 q1
  obtain ⟨its2, rv2, p2⟩ := seqK I1 q2
  obtain ⟨its3, rv3, p3⟩ := seqK I1 q3
  have fresh5 : ∀ c, c ∈ [s1.heap.objs.size + 5, s1.heap.objs.size + 3, s1.heap.objs.size + 4, s1.heap.objs.size, s1.heap.objs.size + 1, s1.heap.objs.size + 2] → FpOk X pins H1 c := fun c hcm => by
    have hle : s1.heap.objs.size ≤ c := by
      have e' : c = s1.heap.objs.size + 5 ∨ c = s1.heap.objs.size + 3 ∨ c = s1.heap.objs.size + 4 ∨ c = s1.heap.objs.size ∨ c = s1.heap.objs.size + 1 ∨ c = s1.heap.objs.size + 2 := by simpa using hcm
      omega
    exact I1.fpOk hle (I1.hok.fresh hle)
  refine call_zip3 p1 p2 p3 fun h' hz hTI hTO h1 h2 h3 hsz hk => wpAny_pyIter_zip hz ?_
  have I2 : Inv X pins σ H1 { s1 with heap := h' } := I1.kept (t' := s1.toks) hk
  exact ⟨s1.heap.objs.size + 5, [s1.heap.objs.size + 5, s1.heap.objs.size + 3, s1.heap.objs.size + 4, s1.heap.objs.size, s1.heap.objs.size + 1, s1.heap.objs.size + 2], _, _, H1, rfl, I2, turnZ3 (za3 p1.lt p2.lt p3.lt), ⟨hz, hTI, ⟨_, _, _, hTO⟩, h1, h2, h3⟩, fun c hc => fresh5 c hc, q⟩
end OakZ
namespace Oak
open PySem PySem.Spec PyProof.Rows L2 OakZ
open Tee (Dd DdAll ScrL SysAt tU tUT tUW tUS tU1 tUG pe_U pt_U pw_U pss_U ps_U pg_U Wd Od KD Stp Good zipD zipD_get zipD_len)
def SeqD (t : T) (xs : List PyData) : Prop := toD t = some (.list xs) ∨ toD t = some (.tuple xs)
def HoK : SK → List V → HO
  | .l, vs => .lst vs
  | .t, vs => .tup vs
theorem SqK.of {K : PySem.W.Frag} {H : Hp} {a : Addr} {vs : List V} : ∀ {c : SK}, H a = some (HoK c vs) → SqK c K H a vs
  | .l, h => SqL.of h
  | .t, h => SqT.of h
theorem seq_dd {G : Hp} {v : V} {xs : List PyData} (h : Dd G v (.list xs) ∨ Dd G v (.tuple xs)) : ∃ (c : SK) (a : Addr) (vs : List V), v = .ref a ∧ G a = some (HoK c vs) ∧ DdAll G vs xs := by
  rcases h with h | h
  · cases h with
    | lst h r => exact ⟨.l, _, _, rfl, h, r⟩
  · cases h with
    | tup h r => exact ⟨.t, _, _, rfl, h, r⟩
theorem good_z2 {K : PySem.W.Frag} {c1 c2 : SK} {a b : Addr} {vs ws : List V} {ds es : List PyData} {G : Hp}
    (h1 : G a = some (HoK c1 vs)) (h2 : G b = some (HoK c2 ws)) (r1 : DdAll G vs ds) (r2 : DdAll G ws es) : Good (ItZ2 K c1 c2 a b) (zipD ds es) G := by
  intro G' R' H' sg w i
  have qa := SqK.of (K := K) (w.gh _ _ (sg _ _ h1))
  have qb := SqK.of (K := K) (w.gh _ _ (sg _ _ h2))
  refine ⟨fun hi => ?_, fun hi => ⟨vs, ws, qa, qb, ?_⟩⟩
  · rw [zipD_len] at hi
    obtain ⟨d, ed⟩ : ∃ d, ds[i]? = some d := ⟨_, List.getElem?_eq_getElem (by omega)⟩
    obtain ⟨e, ee⟩ : ∃ d, es[i]? = some d := ⟨_, List.getElem?_eq_getElem (by omega)⟩
    obtain ⟨v, ev, dv⟩ := Tee.DdAll.get r1 ed
    obtain ⟨u, eu, du⟩ := Tee.DdAll.get r2 ee
    refine ⟨⟨vs, ws, v, u, qa, qb, ev, eu⟩, fun x H'' hx => ?_⟩
    obtain ⟨T, x1, x2, rfl, nT, rfl, f1, f2⟩ := hx
    cases (f1 _ qa).symm.trans ev
    cases (f2 _ qb).symm.trans eu
    have st := Stp.new w (p := T) (o := .tup [v, u]) nT
    have dv' := Dd.mono (sg.trans st.gg) _ _ dv
    have du' := Dd.mono (sg.trans st.gg) _ _ du
    exact ⟨_, .tuple [d, e], st, zipD_get ed ee, .tup upd_same (.cons dv' (.cons du' .nil))⟩
  · rw [zipD_len] at hi
    rw [Tee.DdAll.len r1, Tee.DdAll.len r2]
    omega
def zip3D (xs ys zs : List PyData) : List PyData := (xs.zip (ys.zip zs)).map fun q => .tuple [q.1, q.2.1, q.2.2]
theorem zip3D_get {xs ys zs : List PyData} {i : Nat} {x y z : PyData} (h1 : xs[i]? = some x) (h2 : ys[i]? = some y) (h3 : zs[i]? = some z) : (zip3D xs ys zs)[i]? = some (.tuple [x, y, z]) := by
  unfold zip3D
  rw [List.getElem?_map, (List.getElem?_zip_eq_some (z := (x, y, z))).mpr ⟨h1, (List.getElem?_zip_eq_some (z := (y, z))).mpr ⟨h2, h3⟩⟩]
  rfl
theorem zip3D_len (xs ys zs : List PyData) : (zip3D xs ys zs).length = min xs.length (min ys.length zs.length) := by unfold zip3D; rw [List.length_map, List.length_zip, List.length_zip]
theorem good_z3 {K : PySem.W.Frag} {c1 c2 c3 : SK} {a b c : Addr} {vs ws zs : List V} {ds es fs : List PyData} {G : Hp}
    (h1 : G a = some (HoK c1 vs)) (h2 : G b = some (HoK c2 ws)) (h3 : G c = some (HoK c3 zs)) (r1 : DdAll G vs ds) (r2 : DdAll G ws es) (r3 : DdAll G zs fs) : Good (ItZ3 K c1 c2 c3 a b c) (zip3D ds es fs) G := by
  intro G' R' H' sg w i
  have qa := SqK.of (K := K) (w.gh _ _ (sg _ _ h1))
  have qb := SqK.of (K := K) (w.gh _ _ (sg _ _ h2))
  have qc := SqK.of (K := K) (w.gh _ _ (sg _ _ h3))
  refine ⟨fun hi => ?_, fun hi => ⟨vs, ws, zs, qa, qb, qc, ?_⟩⟩
  · rw [zip3D_len] at hi
    obtain ⟨d, ed⟩ : ∃ d, ds[i]? = some d := ⟨_, List.getElem?_eq_getElem (by omega)⟩
    obtain ⟨e, ee⟩ : ∃ d, es[i]? = some d := ⟨_, List.getElem?_eq_getElem (by omega)⟩
    obtain ⟨f, ef⟩ : ∃ d, fs[i]? = some d := ⟨_, List.getElem?_eq_getElem (by omega)⟩
    obtain ⟨v, ev, dv⟩ := Tee.DdAll.get r1 ed
    obtain ⟨u, eu, du⟩ := Tee.DdAll.get r2 ee
    obtain ⟨o, eo, do'⟩ := Tee.DdAll.get r3 ef
    refine ⟨⟨vs, ws, zs, v, u, o, qa, qb, qc, ev, eu, eo⟩, fun x H'' hx => ?_⟩
    obtain ⟨T, x1, x2, x3, rfl, nT, rfl, f1, f2, f3⟩ := hx
    cases (f1 _ qa).symm.trans ev
    cases (f2 _ qb).symm.trans eu
    cases (f3 _ qc).symm.trans eo
    have st := Stp.new w (p := T) (o := .tup [v, u, o]) nT
    have dv' := Dd.mono (sg.trans st.gg) _ _ dv
    have du' := Dd.mono (sg.trans st.gg) _ _ du
    have do'' := Dd.mono (sg.trans st.gg) _ _ do'
    exact ⟨_, .tuple [d, e, f], st, zip3D_get ed ee ef, .tup upd_same (.cons dv' (.cons du' (.cons do'' .nil)))⟩
  · rw [zip3D_len] at hi
    rw [Tee.DdAll.len r1, Tee.DdAll.len r2, Tee.DdAll.len r3]
    omega
section
variable {S : Sta} {ρ : Rho} {R : Out → Prop} {Q : T → Rho → Prop} {a b c e tg : Expr} {x y z : Str} {p px py pz pos : Pos}
theorem seq_env {S : Sta} {B : Base} {ρ : Rho} {σ : L2.St} {τ : List Cell} {G H : Hp} {t : T} {v : V} {xs : List PyData} (E : EnvR S.K B ρ σ ((t, v) :: τ) [] G H) (h : SeqD t xs) : ∃ G2, Same G G2 ∧ EnvR S.K B ρ σ τ [] G2 H ∧ (Dd G2 v (.list xs) ∨ Dd G2 v (.tuple xs)) := by
  rcases h with h | h
  · obtain ⟨G2, sg, E2⟩ := E.freeze h
    exact ⟨G2, sg, E2.dropT, .inl E2.dd⟩
  · obtain ⟨G2, sg, E2⟩ := E.freeze h
    exact ⟨G2, sg, E2.dropT, .inr E2.dd⟩
theorem dd_seq_mono {G G' : Hp} (sg : Same G G') {v : V} {xs : List PyData} (h : Dd G v (.list xs) ∨ Dd G v (.tuple xs)) : Dd G' v (.list xs) ∨ Dd G' v (.tuple xs) := h.imp (Dd.mono sg _ _) (Dd.mono sg _ _)
theorem sq_up {K : PySem.W.Frag} {G H : Hp} (sm : Same G H) {a : Addr} {vs : List V} : ∀ {c : SK}, G a = some (HoK c vs) → SqK c K H a vs := fun h => SqK.of (sm _ _ h)
theorem wi_zip2K {elts : List Expr} {kk : Nat} {tpos : Pos} {Qd : List PyData → Rho → Prop} (h : WL S [a, b] ρ fun ts ρ1 => ∃ t1 t2 xs ys, ts = [t1, t2] ∧ SeqD t1 xs ∧ SeqD t2 ys ∧ Qd (zipD xs ys) ρ1) (hm : S.mg "zip" = none) (hg : S.sc.names.lookup ("zip" : Str) = some .globalImplicit)
    (ha : NoSt a) (hb : NoSt b) : WI S (.Tuple elts kk tpos) (.Call (.Name "zip" p) [a, b] [] pos) ρ Qd := by
  intro X B st σ τ G H E
  have f := st.fit
  obtain ⟨t, pt, ht⟩ := h X B st σ τ G H E
  refine ⟨_, pi_z2 (glob_of f hg) (by rw [f.mg]; exact hm) pt (ha _ _) (by rw [hb]; rfl), fun RV k => ht _ fun ts ρ1 vs G1 H1 ⟨t1, t2, xs, ys, ets, s1, s2, q⟩ hl E1 => ?_⟩
  subst ets
  match vs, hl with
  | [v1, v2], _ =>
    obtain ⟨G2, g2, E2, d1⟩ := seq_env E1 s1
    obtain ⟨G3, g3, E3, d2⟩ := seq_env E2 s2
    obtain ⟨c1, a1, w1, rfl, h1, r1⟩ := seq_dd (dd_seq_mono g3 d1)
    obtain ⟨c2, a2, w2, rfl, h2, r2⟩ := seq_dd d2
    exact ⟨c1, c2, a1, a2, w1, w2, rfl, sq_up E3.sm h1, sq_up E3.sm h2, k _ _ ρ1 G3 H1 q E3 (good_z2 h1 h2 r1 r2)⟩
theorem wi_zip3 {elts : List Expr} {kk : Nat} {tpos : Pos} {Qd : List PyData → Rho → Prop} (h : WL S [a, b, c] ρ fun ts ρ1 => ∃ t1 t2 t3 xs ys zs, ts = [t1, t2, t3] ∧ SeqD t1 xs ∧ SeqD t2 ys ∧ SeqD t3 zs ∧ Qd (zip3D xs ys zs) ρ1) (hm : S.mg "zip" = none) (hg : S.sc.names.lookup ("zip" : Str) = some .globalImplicit)
    (ha : NoSt a) (hb : NoSt b) (hc : NoSt c) : WI S (.Tuple elts kk tpos) (.Call (.Name "zip" p) [a, b, c] [] pos) ρ Qd := by
  intro X B st σ τ G H E
  have f := st.fit
  obtain ⟨t, pt, ht⟩ := h X B st σ τ G H E
  refine ⟨_, pi_z3 (glob_of f hg) (by rw [f.mg]; exact hm) pt (ha _ _) (by rw [hb, hc]; rfl), fun RV k => ht _ fun ts ρ1 vs G1 H1 ⟨t1, t2, t3, xs, ys, zs, ets, s1, s2, s3, q⟩ hl E1 => ?_⟩
  subst ets
  match vs, hl with
  | [v1, v2, v3], _ =>
    obtain ⟨G2, g2, E2, d1⟩ := seq_env E1 s1
    obtain ⟨G3, g3, E3, d2⟩ := seq_env E2 s2
    obtain ⟨G4, g4, E4, d3⟩ := seq_env E3 s3
    obtain ⟨c1, a1, w1, rfl, h1, r1⟩ := seq_dd (dd_seq_mono (g3.trans g4) d1)
    obtain ⟨c2, a2, w2, rfl, h2, r2⟩ := seq_dd (dd_seq_mono g4 d2)
    obtain ⟨c3, a3, w3, rfl, h3, r3⟩ := seq_dd d3
    exact ⟨c1, c2, c3, a1, a2, a3, w1, w2, w3, rfl, sq_up E4.sm h1, sq_up E4.sm h2, sq_up E4.sm h3, k _ _ ρ1 G4 H1 q E4 (good_z3 h1 h2 h3 r1 r2 r3)⟩
theorem wv_sumT (h : WO S a ρ fun o ρ1 => ∃ ns : List Int, o.view ρ1 = some (.tuple (ns.map .int)) ∧ Q (.sh (.int ns.sum)) ρ1) (hm : S.mg "sum" = none) (hg : S.sc.names.lookup ("sum" : Str) = some .globalImplicit) (ha : NoSt a) : WV S (.Call (.Name "sum" p) [a] [] pos) ρ Q := by
  intro X B st σ τ G H E QV kq
  have f := st.fit
  refine Tee.WE.by (pe_callB (cr_sumT f.calm) (glob_of f hg) (by rw [f.mg]; exact hm) (by decide +kernel) (pa_cons pe_U pa_nil (ha _ _)) (by decide) (by decide) (ha _ _) rfl) ?_
  refine h X B st σ τ G H E _ fun o ρ1 v G1 H1 q E1 ok => ?_
  obtain ⟨ns, e1, q⟩ := q
  have dd := Opd.dd E1 ok e1
  cases dd with
  | tup h1 r =>
    have e := Tee.DdAll.intsV ns r
    subst e
    exact ⟨_, ns, rfl, SqT.of h1, kq _ _ _ _ _ q ((Opd.drop E1).addSh (.int _))⟩
end
end Oak
namespace Oak
open PySem PySem.Spec PyProof.Rows L2 OakZ
open Tee (Dd DdAll ScrL SysAt tU tUT tUW tUS tU1 tUG pe_U pt_U pw_U pss_U ps_U pg_U Wd Od KD Stp Good)
section
variable {S : Sta} {ρ : Rho} {R : Out → Prop} {Q : T → Rho → Prop} {a b c e tg : Expr} {es : List Expr} {x y z : Str} {p px py pz pos : Pos}
theorem wl_star {Q : List T → Rho → Prop} (h : WV S e ρ fun t ρ1 => ∃ ds, SeqD t ds ∧ WL S es ρ1 fun ts ρ2 => Q (ds.map .sh ++ ts) ρ2) : WL S (.Starred e p :: es) ρ Q := by
  intro X B st σ τ G H E
  refine ⟨_, StX.pa_star pe_U Tee.pa_U rfl, fun QV kq => h X B st σ τ G H E _ fun t ρ1 v G1 H1 ⟨ds, hs, q⟩ E1 => ?_⟩
  obtain ⟨G2, g2, E2, d1⟩ := seq_env E1 hs
  obtain ⟨c, a, vs, rfl, h1, r⟩ := seq_dd d1
  have E3 := E2.addAll r
  obtain ⟨rd, pt, ht⟩ := q X B st σ _ G2 H1 E3
  refine ⟨a, vs, rfl, ?_, fun pos pins s I => pt.run pos pins s σ H1 _ I (ht _ fun ts ρ2 ws G3 H3 q2 hl E4 => ?_)⟩
  · have hH := E2.sm _ _ h1
    cases c with
    | l => exact .inr (SqL.of hH)
    | t => exact .inl (SqT.of hH)
  · have hlen : (ds.map T.sh).length = vs.length := by rw [List.length_map, Tee.DdAll.len r]
    refine kq (ds.map .sh ++ ts) ρ2 (vs ++ ws) G3 H3 q2 (by rw [List.length_append, List.length_append, hlen, hl]) ?_
    rw [List.zip_append hlen]
    exact E4.permT ((List.perm_append_comm_assoc _ _ _).trans (by rw [List.append_assoc]))
theorem SeqD.inj {t : T} {xs ys : List PyData} (h : SeqD t xs) (h' : SeqD t ys) : xs = ys := by
  rcases h with h | h <;> rcases h' with h' | h' <;> rw [h] at h' <;> cases h' <;> rfl
theorem wv_listStar3 (h : WV S a ρ fun t1 ρ1 => WV S b ρ1 fun t2 ρ2 => (∃ ds, SeqD t2 ds) ∧ WV S c ρ2 fun t3 ρ3 => ∃ ds, SeqD t2 ds ∧ ds.length + 2 ≤ sizeLine ∧ Q (.lst (t1 :: (ds.map .sh ++ [t3]))) ρ3) (ha : NoSt a) (hc : NoSt c) : WV S (.List [a, .Starred b p, c] pos) ρ Q :=
  wv_list (wl_cons (h.mono fun t1 ρ1 q => wl_star (q.mono fun t2 ρ2 ⟨⟨ds, hs⟩, q⟩ => ⟨ds, hs, wl_cons (q.mono fun t3 ρ3 ⟨ds', hs', hl, q⟩ => wl_nil (by
    cases hs.inj hs'
    exact ⟨by simp; omega, q⟩)) (hc _)⟩)) (ha _))
def enumD (xs : List PyData) : List PyData := (xs.zipIdx).map fun q => .tuple [.int ((q.2 : Nat) : Int), q.1]
theorem enumD_get {xs : List PyData} {i : Nat} {x : PyData} (h1 : xs[i]? = some x) : (enumD xs)[i]? = some (.tuple [.int (i : Nat), x]) := by
  unfold enumD
  rw [List.getElem?_map, List.getElem?_zipIdx, h1]
  simp
theorem enumD_len (xs : List PyData) : (enumD xs).length = xs.length := by unfold enumD; rw [List.length_map, List.length_zipIdx]
theorem good_enum {K : PySem.W.Frag} {a : Addr} {vs : List V} {ds : List PyData} {G : Hp} (h1 : G a = some (.lst vs)) (r1 : DdAll G vs ds) : Good (Ite K a) (enumD ds) G := by
  intro G' R' H' sg w i
  have qa := SqL.of (K := K) (w.gh _ _ (sg _ _ h1))
  refine ⟨fun hi => ?_, fun hi => ⟨vs, qa, ?_⟩⟩
  · rw [enumD_len] at hi
    obtain ⟨d, ed⟩ : ∃ d, ds[i]? = some d := ⟨_, List.getElem?_eq_getElem (by omega)⟩
    obtain ⟨v, ev, dv⟩ := Tee.DdAll.get r1 ed
    refine ⟨⟨vs, v, qa, ev⟩, fun x H'' hx => ?_⟩
    obtain ⟨T, x1, rfl, nT, rfl, f1⟩ := hx
    cases (f1 _ qa).symm.trans ev
    have st := Stp.new w (p := T) (o := .tup [.int (i : Nat), v]) nT
    have dv' := Dd.mono (sg.trans st.gg) _ _ dv
    exact ⟨_, .tuple [.int (i : Nat), d], st, enumD_get ed, .tup upd_same (.cons (.int _) (.cons dv' .nil))⟩
  · rw [enumD_len] at hi
    rw [Tee.DdAll.len r1]
    omega
theorem wi_enum {elts : List Expr} {kk : Nat} {tpos : Pos} {Qd : List PyData → Rho → Prop} (h : WL S [a] ρ fun ts ρ1 => ∃ t1 xs, ts = [t1] ∧ toD t1 = some (.list xs) ∧ Qd (enumD xs) ρ1) (hm : S.mg "enumerate" = none) (hg : S.sc.names.lookup ("enumerate" : Str) = some .globalImplicit)
    (ha : NoSt a) : WI S (.Tuple elts kk tpos) (.Call (.Name "enumerate" p) [a] [] pos) ρ Qd := by
  intro X B st σ τ G H E
  have f := st.fit
  obtain ⟨t, pt, ht⟩ := h X B st σ τ G H E
  refine ⟨_, pi_enum (glob_of f hg) (by rw [f.mg]; exact hm) pt (by rw [ha]; rfl), fun RV k => ht _ fun ts ρ1 vs G1 H1 ⟨t1, xs, ets, s1, q⟩ hl E1 => ?_⟩
  subst ets
  match vs, hl with
  | [v1], _ =>
    obtain ⟨G2, g2, E2⟩ := E1.freeze s1
    have dd := E2.dd
    cases dd with
    | lst h1 r => exact ⟨_, _, rfl, SqL.of (E2.sm _ _ h1), k _ _ ρ1 G2 H1 q E2.dropT (good_enum h1 r)⟩
end
end Oak
namespace Oak
open PySem PySem.Spec PyProof.Rows L2
open Tee (Dd DdAll ScrL SysAt CmpD Wd Od KD Stp upTo zipD tyName pe_U)
structure Ctx where
  N : List Str
  sc : Scope
  blk : Option Scope
def Ctx.fn (C : Ctx) (x : Str) : Bool := match C.blk with
  | none => true
  | some s => s.names.lookup x == some .cell
def Ctx.inBlk (C : Ctx) (scope : Scope) : Ctx := { C with sc := relS scope C.sc, blk := some scope }
def notStar : Expr → Bool
  | .Starred .. => false
  | _ => true
def okName (x : Str) : Bool := !(x == ("__debug__" : Str)) && !(x == ("__classdict__" : Str))
def Ctx.vis (C : Ctx) (x : Str) : Bool := match C.sc.names.lookup x with
  | some .local => true
  | some .cell => true
  | some .free => true
  | _ => false
def Ctx.own1 (C : Ctx) (i : Nat) (x : Str) : Bool := C.N[i]? == some x && (match C.sc.names.lookup x with
  | some .local => true
  | some .cell => C.fn x
  | _ => false)
def Ctx.isG (C : Ctx) (x : Str) : Bool := C.sc.names.lookup x == some .globalImplicit && okName x
def plain : Expr → Bool
  | .Name .. => true
  | .Subscript .. => true
  | .Call .. => true
  | .Constant .. => true
  | _ => false
def notSet : Expr → Bool
  | .Set .. => false
  | _ => true
structure Lk (C : Ctx) (S : Sta) : Prop where
  N : C.N = S.N
  sc : C.sc = S.sc
  fn : ∀ x, C.fn x = true → S.fn x = true
theorem Lk.blk {C : Ctx} {S : Sta} (l : Lk C S) (scope : Scope) : Lk (C.inBlk scope) (S.blk scope) := ⟨l.N, by show relS scope C.sc = relS scope S.sc; rw [l.sc], fun x h => h⟩
theorem star_of : ∀ {e : Expr}, notStar e = true → ∀ es env, starEach (e :: es) env = (false, eval e env) :: starEach es env := by
  intro e h es env
  cases e <;> first | rfl | cases h
theorem not_any {es : List Expr} {pos : Pos} (h : ∀ e ∈ es, notStar e = true) (env : Env) : (backTo pos (starEach es env)).any (·.1) = false := by
  induction es with
  | nil => rfl
  | cons e es ih =>
    rw [star_of (h e List.mem_cons_self)]
    show (false || (backTo pos (starEach es env)).any (·.1)) = false
    rw [Bool.false_or]
    exact ih fun e he => h e (List.mem_cons_of_mem _ he)
theorem plain_of {e : Expr} (h : plain e = true) : Plain e := by
  cases e <;> first | (intro _ _; rfl) | cases h
theorem vis_of {C : Ctx} {S : Sta} (l : Lk C S) {x : Str} (h : C.vis x = true) : Vis S.sc x := by
  unfold Ctx.vis at h
  rw [l.sc] at h
  split at h
  · exact .inl (by assumption)
  · exact .inr (.inl (by assumption))
  · exact .inr (.inr (by assumption))
  · cases h
theorem name_ok {x : Str} (h : okName x = true) : (x == ("__debug__" : Str)) = false ∧ (x == ("__classdict__" : Str)) = false := by
  unfold okName at h
  rw [Bool.and_eq_true] at h
  exact ⟨by simpa using h.1, by simpa using h.2⟩
theorem own1_of {C : Ctx} {S : Sta} (l : Lk C S) {i : Nat} {x : Str} (h : C.own1 i x = true) (hF : i ∉ S.fxs) : Own1 S i x := by
  unfold Ctx.own1 at h
  rw [Bool.and_eq_true] at h
  obtain ⟨h1, h2⟩ := h
  have hN : S.N[i]? = some x := by rw [← l.N]; exact eq_of_beq h1
  split at h2
  · rename_i e
    rw [l.sc] at e
    exact ⟨hN, .inl e, .inr e, hF⟩
  · rename_i e
    rw [l.sc] at e
    exact ⟨hN, .inr e, .inl (l.fn x h2), hF⟩
  · cases h2
theorem isG_of {C : Ctx} {S : Sta} (l : Lk C S) {x : Str} (h : C.isG x = true) : S.sc.names.lookup x = some .globalImplicit ∧ (x == ("__debug__" : Str)) = false := by
  unfold Ctx.isG at h
  rw [Bool.and_eq_true] at h
  exact ⟨by rw [← l.sc]; exact eq_of_beq h.1, (name_ok h.2).1⟩
theorem folded_of {e : Expr} (h : notSet e = true) : ∀ env x, foldedSetIterable e env x = pure x := by
  intro env x
  cases e <;> first | rfl | cases h
theorem behind_of {op : CmpOp} {e : Expr} (h : notSet e = true) : behindInMarks op e = false := by
  cases e <;> first | rfl | cases h
abbrev bltN : List Str := ["len", "sum", "max", "min", "all", "any", "int", "range", "repr", "isinstance", "list", "tuple", "sorted", "abs", "zip", "enumerate", "divmod", "bool", "str", "dict", "set", "reversed"]
abbrev Blt (S : Sta) : Prop := ∀ x ∈ bltN, S.mg x = none
structure ExC (S : Sta) (x : Str) (C : Addr) : Prop where
  mg : S.mg x = some (.ref C)
  q : PySem.W.excIn S.K C [.type "ValueError", .type "Exception", .type "BaseException", .type "object"] "ValueError.__new__" = true
  k : PySem.W.keepIn S.K (.ref C) = true
  b : PySem.W.subIn S.K (.ref C) (.type "BaseException") = some true
  t : PySem.W.typeIn S.K (.ref C) = some (.type "type")
structure Gam where
  fn : Str → Option Wp
  ct : Str → Option Int
  /-- what is wanted of an exception -/
  E : Value → XF → Rho → Prop
  /-- classes of errors -/
  ex : Str → Option Addr := fun _ => none
abbrev Gam.lend (Γ : Gam) (ρ : Rho) : Gam := { Γ with E := fun cls fs _ => flatX fs = true ∧ Γ.E cls fs ρ }
abbrev Gam.calm (Γ : Gam) : Gam := { Γ with E := fun _ _ _ => False }
structure Gam.Ok (Γ : Gam) (S : Sta) : Prop where
  fn : ∀ x W, Γ.fn x = some W → ∃ k, k ≤ S.k ∧ Has S x k W
  ct : ∀ x i, Γ.ct x = some i → ∃ t, S.mg x = some (.int i t)
  blt : Blt S
  E : S.E = Γ.E
  ex : ∀ x C, Γ.ex x = some C → ExC S x C
structure Un where
  ck : Ctx → Expr → Option Expr
  wp : Opd → Rho → (T → Rho → Prop) → Prop
  pl : Bool
  plOk : pl = true → ∀ {C e a}, ck C e = some a → plain e = true
  snd : ∀ {C S e a ρ Q}, Lk C S → Blt S → ck C e = some a → WO S a ρ (fun o ρ1 => wp o ρ1 Q) → WV S e ρ Q
structure Bin where
  ck : Ctx → Expr → Option (Expr × Expr)
  pre : Opd → Rho → Prop
  wp : Opd → Opd → Rho → (T → Rho → Prop) → Prop
  snd : ∀ {C S e a b ρ Q}, Lk C S → Blt S → ck C e = some (a, b) → WO S a ρ (fun oa ρ1 => pre oa ρ1 ∧ WO S b ρ1 fun ob ρ2 => wp oa ob ρ2 Q) → WV S e ρ Q
structure Its where
  ck : Ctx → Expr → Expr → Option (List Expr)
  wp : List T → Rho → (List PyData → Rho → Prop) → Prop
  snd : ∀ {C S tg e es ρ Q}, Lk C S → Blt S → ck C tg e = some es → WL S es ρ (fun ts ρ1 => wp ts ρ1 Q) → WI S tg e ρ Q
structure Nul where
  ck : Ctx → Expr → Bool
  wp : Gam → Rho → (T → Rho → Prop) → Prop
  pl : Bool
  plOk : pl = true → ∀ {C e}, ck C e = true → plain e = true
  snd : ∀ {Γ C S e ρ Q}, Lk C S → Γ.Ok S → ck C e = true → wp Γ ρ Q → WV S e ρ Q
structure Tri where
  ck : Ctx → Expr → Option (Expr × Expr × Expr)
  pre : T → T → Prop
  wp : Gam → T → T → T → Rho → (T → Rho → Prop) → Prop
  snd : ∀ {Γ C S e a b c ρ Q}, Lk C S → Γ.Ok S → ck C e = some (a, b, c) → WV S a ρ (fun t1 ρ1 => WV S b ρ1 fun t2 ρ2 => pre t1 t2 ∧ WV S c ρ2 fun t3 ρ3 => wp Γ t1 t2 t3 ρ3 Q) → WV S e ρ Q
structure Stm0 where
  ck : Ctx → Stmt → Bool
  wp : Gam → Rho → (Out → Prop) → Prop
  snd : ∀ {Γ C S s ρ R}, Lk C S → Γ.Ok S → ck C s = true → wp Γ ρ R → W1 S s ρ R
structure Nar where
  ck : Ctx → Expr → Option (List Expr)
  wp : Gam → List T → Rho → (T → Rho → Prop) → Prop
  pl : Bool
  plOk : pl = true → ∀ {C e a}, ck C e = some a → plain e = true
  snd : ∀ {Γ C S e es ρ Q}, Lk C S → Γ.Ok S → ck C e = some es → WL S es ρ (fun ts ρ1 => wp Γ ts ρ1 Q) → WV S e ρ Q
structure Stm where
  ck : Ctx → Stmt → Option (List Expr)
  wp : Gam → List T → Rho → (Out → Prop) → Prop
  snd : ∀ {Γ C S s es ρ R}, Lk C S → Γ.Ok S → ck C s = some es → WL S es ρ (fun ts ρ1 => wp Γ ts ρ1 R) → W1 S s ρ R
def ckCall (f : Str) (C : Ctx) : Expr → Option Expr
  | .Call (.Name x _) [a] [] _ => if x == f && C.isG x && notStar a then some a else none
  | _ => none
theorem of_ckCall {f : Str} {C : Ctx} {e a : Expr} (h : ckCall f C e = some a) : ∃ p pos, e = .Call (.Name f p) [a] [] pos ∧ C.isG f = true ∧ notStar a = true := by
  unfold ckCall at h
  split at h
  · split at h
    · rename_i x p a' pos hc
      simp only [Bool.and_eq_true] at hc
      have ef := eq_of_beq hc.1.1
      subst ef
      cases h
      exact ⟨p, pos, rfl, hc.1.2, hc.2⟩
    · cases h
  · cases h
theorem ckCall_plain {f : Str} {C : Ctx} {e a : Expr} (h : ckCall f C e = some a) : plain e = true := by
  obtain ⟨p, pos, rfl, _⟩ := of_ckCall h
  rfl
def uRepr : Un where
  ck := ckCall "repr"
  wp := fun o ρ Q => ∃ d : PyData, o.view ρ = some d ∧ ((∃ xs, d = .list xs) ∨ (∃ xs, d = .tuple xs)) ∧ d.showable = true ∧ d.depth ≤ 60 ∧ d.shown.length ≤ sizeLine ∧ Q (.sh (.str d.shown)) ρ
  pl := true
  plOk := fun _ => ckCall_plain
  snd := fun l g h q => by
    obtain ⟨p, pos, rfl, h1, h2⟩ := of_ckCall h
    exact wv_repr q (g _ (by simp)) (isG_of l h1).1 (star_of h2)
def uList : Un where
  ck := ckCall "list"
  wp := fun o ρ Q => ∃ ds, (qf0 o ρ ds ∨ qh0 o ρ ds) ∧ Q (.lst (ds.map .sh)) ρ
  pl := true
  plOk := fun _ => ckCall_plain
  snd := fun l g h q => by
    obtain ⟨p, pos, rfl, h1, h2⟩ := of_ckCall h
    exact wv_toLis q (g _ (by simp)) (isG_of l h1).1 (star_of h2)
def uTuple : Un where
  ck := ckCall "tuple"
  wp := fun o ρ Q => ∃ ds, qf0 o ρ ds ∧ Q (.tup (ds.map .sh)) ρ
  pl := true
  plOk := fun _ => ckCall_plain
  snd := fun l g h q => by
    obtain ⟨p, pos, rfl, h1, h2⟩ := of_ckCall h
    exact wv_toTup q (g _ (by simp)) (isG_of l h1).1 (star_of h2)
theorem bsoO : bootBuiltins ("sorted" : Str) = some (.builtin "sorted") := by decide +kernel
def uSorted : Un where
  ck := ckCall "sorted"
  wp := fun o ρ Q => ∃ ns : List Int, o.view ρ = some (.list (ns.map .int)) ∧ ∀ ns' : List Int, ns'.Perm ns → ns'.Pairwise (· ≤ ·) → Q (.lst ((ns'.map PyData.int).map .sh)) ρ
  pl := true
  plOk := fun _ => ckCall_plain
  snd := fun l g h q => by
    obtain ⟨p, pos, rfl, h1, h2⟩ := of_ckCall h
    exact wv_sortI q (g _ (by simp)) bsoO (isG_of l h1).1 (star_of h2)
section
variable {S : Sta} {ρ : Rho} {Q : T → Rho → Prop} {a b c e : Expr} {p pos : Pos}
theorem wv_abs (h : WO S a ρ fun o ρ1 => ∃ i, o.view ρ1 = some (.int i) ∧ Q (.sh (.int (if i < 0 then -i else i))) ρ1) (hm : S.mg "abs" = none) (hg : S.sc.names.lookup ("abs" : Str) = some .globalImplicit) (ha : NoSt a) : WV S (.Call (.Name "abs" p) [a] [] pos) ρ Q := by
  intro X B st σ τ G H E QV kq
  have f := st.fit
  refine Tee.WE.by (pe_callB call_abs (glob_of f hg) (by rw [f.mg]; exact hm) (by decide +kernel) (pa_cons pe_U pa_nil (ha _ _)) (by decide) (by decide) (ha _ _) rfl) ?_
  refine h X B st σ τ G H E _ fun o ρ1 v G1 H1 q E1 ok => ?_
  obtain ⟨i, e1, q⟩ := q
  exact ⟨i, by rw [(Opd.dd E1 ok e1).intV], kq _ _ _ _ _ q ((Opd.drop E1).addSh (.int _))⟩
theorem wv_rev {k : Nat} {p1 p2 p3 : Pos} (h : WO S a ρ fun o ρ1 => ∃ ds, qf0 o ρ1 ds ∧ Q (.lst (ds.reverse.map .sh)) ρ1) : WV S (.Subscript a (.Slice none none (some (.UnaryOp .USub (.Constant (.int 1) k p1) p2)) p3) pos) ρ Q := by
  intro X B st σ τ G H E QV kq
  refine Tee.WE.by (pe_revL pe_U) ?_
  refine h X B st σ τ G H E _ fun o ρ1 v G1 H1 q E1 ok => ?_
  obtain ⟨ds, hi, q⟩ := q
  obtain ⟨l, vs, rfl, h1, r⟩ := items_l E1 ok hi
  exact ⟨l, vs, rfl, SqL.of h1, fun p hp => kq _ _ _ _ _ q ((Opd.drop E1).newOwn (Tee.DdAll.rev r) hp)⟩
end
def uAbs : Un where
  ck := ckCall "abs"
  wp := fun o ρ Q => ∃ i, o.view ρ = some (.int i) ∧ Q (.sh (.int (if i < 0 then -i else i))) ρ
  pl := true
  plOk := fun _ => ckCall_plain
  snd := fun l g h q => by
    obtain ⟨p, pos, rfl, h1, h2⟩ := of_ckCall h
    exact wv_abs q (g _ (by simp)) (isG_of l h1).1 (star_of h2)
def ckRev : Expr → Option Expr
  | .Subscript a (.Slice none none (some (.UnaryOp .USub (.Constant (.int 1) _ _) _)) _) _ => some a
  | _ => none
def uRev : Un where
  ck := fun _ => ckRev
  wp := fun o ρ Q => ∃ ds, qf0 o ρ ds ∧ Q (.lst (ds.reverse.map .sh)) ρ
  pl := true
  plOk := fun _ => @fun _ _ _ h => by
    unfold ckRev at h
    split at h <;> first | rfl | cases h
  snd := fun l g h q => by
    unfold ckRev at h
    split at h
    · cases h; exact wv_rev q
    · cases h
def ckIsi (Ty : Str) (C : Ctx) : Expr → Option Expr
  | .Call (.Name x _) [a, .Name y _] [] _ => if x == ("isinstance" : Str) && C.isG x && notStar a && (y == Ty && C.isG y) then some a else none
  | _ => none
def uIsi (Ty : Str) (n : String) (hT : bootBuiltins Ty = some (.type n)) (hm : Ty ∈ bltN) (hn : Ty ≠ "__name__") : Un where
  ck := ckIsi Ty
  wp := fun o ρ Q => ∃ d k, o.view ρ = some d ∧ kitB (tyName d) n = some k ∧ Q (.sh (.bool k)) ρ
  pl := true
  plOk := fun _ => @fun _ _ _ h => by
    unfold ckIsi at h
    split at h <;> first | rfl | cases h
  snd := fun l g h q => by
    unfold ckIsi at h
    split at h
    · split at h
      · rename_i hc
        simp only [Bool.and_eq_true] at hc
        obtain ⟨⟨⟨h1, h2⟩, h3⟩, h4, h5⟩ := hc
        have e1 := eq_of_beq h1
        have e2 := eq_of_beq h4
        subst e1 e2
        cases h
        exact wv_isi q hT (g _ hm) (g _ (by simp)) (isG_of l h2).1 (isG_of l h5).1 hn (isG_of l h5).2 (star_of h3)
      · cases h
    · cases h
def uIsInt : Un := uIsi "int" "int" PyProof.Rows.boot_int (by simp) (by decide)
def uIsBool : Un := uIsi "bool" "bool" (by decide +kernel) (by simp) (by decide)
def uIsStr : Un := uIsi "str" "str" (by decide +kernel) (by simp) (by decide)
def uIsList : Un := uIsi "list" "list" (by decide +kernel) (by simp) (by decide)
def uIsTuple : Un := uIsi "tuple" "tuple" (by decide +kernel) (by simp) (by decide)
def ckIsi2 (C : Ctx) : Expr → Option Expr
  | .Call (.Name x _) [a, .Tuple [.Name y _, .Name z _] _ _] [] _ => if x == ("isinstance" : Str) && C.isG x && notStar a && (y == ("list" : Str) && C.isG y) && (z == ("tuple" : Str) && C.isG z) then some a else none
  | _ => none
def uIsSeq : Un where
  ck := ckIsi2
  wp := fun o ρ Q => ∃ d k k', o.view ρ = some d ∧ kitB (tyName d) "list" = some k ∧ kitB (tyName d) "tuple" = some k' ∧ Q (.sh (.bool (k || k'))) ρ
  pl := true
  plOk := fun _ => @fun _ _ _ h => by
    unfold ckIsi2 at h
    split at h <;> first | rfl | cases h
  snd := fun l g h q => by
    unfold ckIsi2 at h
    split at h
    · split at h
      · rename_i hc
        simp only [Bool.and_eq_true] at hc
        obtain ⟨⟨⟨⟨h1, h2⟩, h3⟩, h4, h5⟩, h6, h7⟩ := hc
        have e1 := eq_of_beq h1
        have e2 := eq_of_beq h4
        have e3 := eq_of_beq h6
        subst e1 e2 e3
        cases h
        exact wv_isi2 q (by decide +kernel) (by decide +kernel) (g _ (by simp)) (g _ (by simp)) (g _ (by simp)) (isG_of l h2).1 (isG_of l h5).1 (isG_of l h7).1 (by decide) (isG_of l h5).2 (by decide) (isG_of l h7).2 (star_of h3)
      · cases h
    · cases h
def SlO (o : Opd) (i j : Option Int) (ρ : Rho) (Q : T → Rho → Prop) : Prop := (∃ ds, qf0 o ρ ds ∧ Q (.lst ((Tee.cutD ds i j).map .sh)) ρ) ∨ (∃ ds, o.tree ρ = some (.sh (.tuple ds)) ∧ Q (.sh (.tuple (Tee.cutD ds i j))) ρ) ∨ ∃ ns : List Int, o.tree ρ = some (.scr ns) ∧ Q (.lst ((Tee.cutD (ns.map .int) i j).map .sh)) ρ
def ckTo : Expr → Option (Expr × Expr)
  | .Subscript a (.Slice none (some b) none _) _ => some (a, b)
  | _ => none
def bTo : Bin where
  ck := fun _ => ckTo
  pre := fun _ _ => True
  wp := fun oa ob ρ Q => ∃ j, ob.view ρ = some (.int j) ∧ SlO oa none (some j) ρ Q
  snd := fun l g h q => by
    unfold ckTo at h
    split at h
    · cases h
      exact wv_slice (q.mono fun oa ρ1 q => wpa_none (wpa_some (q.2.mono fun ob ρ2 ⟨j, e1, q⟩ => ⟨j, e1, q⟩)))
    · cases h
def ckFrom : Expr → Option (Expr × Expr)
  | .Subscript a (.Slice (some b) none none _) _ => some (a, b)
  | _ => none
def bFrom : Bin where
  ck := fun _ => ckFrom
  pre := fun _ _ => True
  wp := fun oa ob ρ Q => ∃ j, ob.view ρ = some (.int j) ∧ SlO oa (some j) none ρ Q
  snd := fun l g h q => by
    unfold ckFrom at h
    split at h
    · cases h
      exact wv_slice (q.mono fun oa ρ1 q => wpa_some (q.2.mono fun ob ρ2 ⟨j, e1, q⟩ => ⟨j, e1, wpa_none q⟩))
    · cases h
def ckZip (C : Ctx) : Expr → Expr → Option (List Expr)
  | .Tuple _ _ _, .Call (.Name x _) [a, b] [] _ => if x == ("zip" : Str) && C.isG x && notStar a && notStar b then some [a, b] else none
  | _, _ => none
def iZip : Its where
  ck := ckZip
  wp := fun ts ρ Q => ∃ xs ys, (ts.map toD = [some (.list xs), some (.list ys)] ∨ ts.map toD = [some (.tuple xs), some (.tuple ys)]) ∧ Q (zipD xs ys) ρ
  snd := fun l g h q => by
    unfold ckZip at h
    split at h
    · split at h
      · rename_i hc
        simp only [Bool.and_eq_true] at hc
        obtain ⟨⟨⟨h1, h2⟩, h3⟩, h4⟩ := hc
        have e1 := eq_of_beq h1
        subst e1
        cases h
        exact wi_zip q (g _ (by simp)) (isG_of l h2).1 (star_of h3) (star_of h4)
      · cases h
    · cases h
def isName : Expr → Bool
  | .Name .. => true
  | _ => false
def ckMeth (m : Str) : Expr → Option (Expr × Expr)
  | .Call (.Attribute a y pa) [b] [] pc => if y == m && isName a && notStar b && pa.endLine == pc.line then some (a, b) else none
  | _ => none
theorem of_ckMeth {m : Str} {e a b : Expr} (h : ckMeth m e = some (a, b)) : ∃ pa pc, e = .Call (.Attribute a m pa) [b] [] pc ∧ isName a = true ∧ notStar b = true ∧ (pa.endLine == pc.line) = true := by
  unfold ckMeth at h
  split at h
  · split at h
    · rename_i hc
      simp only [Bool.and_eq_true] at hc
      have e1 := eq_of_beq hc.1.1.1
      subst e1
      cases h
      exact ⟨_, _, rfl, hc.1.1.2, hc.1.2, hc.2⟩
    · cases h
  · cases h
theorem few_of {b : Expr} (h : notStar b = true) (pc : Pos) (env : Env) : ((backTo pc (starEach [b] env)).all (fun x => !x.1) && (backToKw pc (keywordEach [] env)).all (fun x => x.1.isSome)
      && decide ([b].length + ([] : List Keyword).length + (if ([] : List Keyword).isEmpty then 0 else 1) < 30)) = true := by rw [star_of h]; rfl
def bCount : Bin where
  ck := fun _ => ckMeth "count"
  pre := fun o ρ => ∃ ds, o.view ρ = some (.list ds)
  wp := fun oa ob ρ Q => ∃ (ns : List Int) (k : Int), oa.view ρ = some (.list (ns.map .int)) ∧ ob.view ρ = some (.int k) ∧ Q (.sh (.int (ns.count k : Nat))) ρ
  snd := fun l g h q => by
    obtain ⟨pa, pc, rfl, h1, h2, h3⟩ := of_ckMeth h
    exact wv_count q ⟨fun env => star_of h2 [] env, trivial⟩ (few_of h2 pc) (fun env => by unfold isName at h1; split at h1 <;> first | rfl | cases h1) h3
def bIndex : Bin where
  ck := fun _ => ckMeth "index"
  pre := fun o ρ => ∃ ds, o.view ρ = some (.list ds)
  wp := fun oa ob ρ Q => ∃ (ns : List Int) (n : Int) (j : Nat), oa.view ρ = some (.list (ns.map .int)) ∧ ob.view ρ = some (.int n) ∧ ns[j]? = some n ∧ (∀ m z, m < j → ns[m]? = some z → z ≠ n) ∧ Q (.sh (.int (j : Nat))) ρ
  snd := fun l g h q => by
    obtain ⟨pa, pc, rfl, h1, h2, h3⟩ := of_ckMeth h
    exact wv_index q ⟨fun env => star_of h2 [] env, trivial⟩ (few_of h2 pc) (fun env => by unfold isName at h1; split at h1 <;> first | rfl | cases h1) h3
def ckCall2 (f : Str) (C : Ctx) : Expr → Option (Expr × Expr)
  | .Call (.Name x _) [a, b] [] _ => if x == f && C.isG x && notStar a && notStar b then some (a, b) else none
  | _ => none
theorem of_ckCall2 {f : Str} {C : Ctx} {e a b : Expr} (h : ckCall2 f C e = some (a, b)) : ∃ p pos, e = .Call (.Name f p) [a, b] [] pos ∧ C.isG f = true ∧ notStar a = true ∧ notStar b = true := by
  unfold ckCall2 at h
  split at h
  · split at h
    · rename_i hc
      simp only [Bool.and_eq_true] at hc
      have ef := eq_of_beq hc.1.1.1
      subst ef
      cases h
      exact ⟨_, _, rfl, hc.1.1.2, hc.1.2, hc.2⟩
    · cases h
  · cases h
def bDivmod : Bin where
  ck := ckCall2 "divmod"
  pre := fun _ _ => True
  wp := fun oa ob ρ Q => ∃ i j, oa.view ρ = some (.int i) ∧ ob.view ρ = some (.int j) ∧ CDiv i j ∧ Q (.tup [.sh (.int (i / j)), .sh (.int (i % j))]) ρ
  snd := fun l g h q => by
    obtain ⟨p, pos, rfl, h1, h2, h3⟩ := of_ckCall2 h
    exact wv_divmod (q.mono fun oa ρ1 q => q.2) (g _ (by simp)) (isG_of l h1).1 (star_of h2) (star_of h3)
def ckRange2 (C : Ctx) (_ : Expr) : Expr → Option (List Expr)
  | .Call (.Name x _) [a, b] [] _ => if x == ("range" : Str) && C.isG x && notStar a && notStar b then some [a, b] else none
  | _ => none
def iRange2 : Its where
  ck := ckRange2
  wp := fun ts ρ Q => ∃ i j : Int, ts = [.sh (.int i), .sh (.int j)] ∧ (-(2 ^ 62) ≤ i ∧ i < 2 ^ 62 ∧ -(2 ^ 62) ≤ j ∧ j < 2 ^ 62) ∧ Q (steps i 1 (j - i).toNat) ρ
  snd := fun l g h q => by
    unfold ckRange2 at h
    split at h
    · split at h
      · rename_i hc
        simp only [Bool.and_eq_true] at hc
        obtain ⟨⟨⟨h1, h2⟩, h3⟩, h4⟩ := hc
        have e1 := eq_of_beq h1
        subst e1
        cases h
        exact wi_range2 q (g _ (by simp)) (isG_of l h2).1 (star_of h3) (star_of h4)
      · cases h
    · cases h
def ckRange3 (C : Ctx) (_ : Expr) : Expr → Option (List Expr)
  | .Call (.Name x _) [a, b, c] [] _ => if x == ("range" : Str) && C.isG x && notStar a && notStar b && notStar c then some [a, b, c] else none
  | _ => none
def iRange3 : Its where
  ck := ckRange3
  wp := fun ts ρ Q => ∃ (i j d : Int) (n : Nat), ts = [.sh (.int i), .sh (.int j), .sh (.int d)] ∧ RgC i j d n ∧ Q (steps i d n) ρ
  snd := fun l g h q => by
    unfold ckRange3 at h
    split at h
    · split at h
      · rename_i hc
        simp only [Bool.and_eq_true] at hc
        obtain ⟨⟨⟨⟨h1, h2⟩, h3⟩, h4⟩, h5⟩ := hc
        have e1 := eq_of_beq h1
        subst e1
        cases h
        exact wi_range3 q (g _ (by simp)) (isG_of l h2).1 (star_of h3) (star_of h4) (star_of h5)
      · cases h
    · cases h
def notSl : Expr → Bool
  | .Slice .. => false
  | _ => true
theorem notSl_of {b : Expr} (h : notSl b = true) : NoSl b := by
  intro o i
  cases b <;> first | rfl | cases h
def ckGetD : Expr → Option (Expr × Expr)
  | .Subscript a b _ => if notSl b then some (a, b) else none
  | _ => none
def bGetD : Bin where
  ck := fun _ => ckGetD
  pre := fun _ _ => True
  wp := GetD
  snd := fun l g h q => by
    unfold ckGetD at h
    split at h
    · split at h
      · rename_i hc
        cases h
        exact wv_dget (q.mono fun oa ρ1 q => q.2) (notSl_of hc)
      · cases h
    · cases h
def ckLr1 (C : Ctx) : Expr → Option Expr
  | .Call (.Name x _) [.Call (.Name y _) [a] [] _] [] _ => if x == ("list" : Str) && C.isG x && y == ("range" : Str) && C.isG y && notStar a then some a else none
  | _ => none
def uListRange : Un where
  ck := ckLr1
  wp := fun o ρ Q => ∃ j : Int, o.view ρ = some (.int j) ∧ RgOk 0 j ∧ Q (.lst ((steps 0 1 j.toNat).map .sh)) ρ
  pl := true
  plOk := fun _ => @fun _ _ _ h => by
    unfold ckLr1 at h
    split at h <;> first | rfl | cases h
  snd := fun l g h q => by
    unfold ckLr1 at h
    split at h
    · split at h
      · rename_i hc
        simp only [Bool.and_eq_true] at hc
        obtain ⟨⟨⟨⟨h1, h2⟩, h3⟩, h4⟩, h5⟩ := hc
        have e1 := eq_of_beq h1
        have e2 := eq_of_beq h3
        subst e1 e2
        cases h
        exact wv_listRange1 q (g _ (by simp)) (g _ (by simp)) (isG_of l h2).1 (isG_of l h4).1 (star_of h5)
      · cases h
    · cases h
def ckLr2 (C : Ctx) : Expr → Option (Expr × Expr)
  | .Call (.Name x _) [.Call (.Name y _) [a, b] [] _] [] _ => if x == ("list" : Str) && C.isG x && y == ("range" : Str) && C.isG y && notStar a && notStar b then some (a, b) else none
  | _ => none
def bListRange : Bin where
  ck := ckLr2
  pre := fun _ _ => True
  wp := fun oa ob ρ Q => ∃ i j : Int, oa.view ρ = some (.int i) ∧ ob.view ρ = some (.int j) ∧ RgOk i j ∧ Q (.lst ((steps i 1 (j - i).toNat).map .sh)) ρ
  snd := fun l g h q => by
    unfold ckLr2 at h
    split at h
    · split at h
      · rename_i hc
        simp only [Bool.and_eq_true] at hc
        obtain ⟨⟨⟨⟨⟨h1, h2⟩, h3⟩, h4⟩, h5⟩, h6⟩ := hc
        have e1 := eq_of_beq h1
        have e2 := eq_of_beq h3
        subst e1 e2
        cases h
        exact wv_listRange2 (q.mono fun oa ρ1 q => q.2) (g _ (by simp)) (g _ (by simp)) (isG_of l h2).1 (isG_of l h4).1 (star_of h5) (star_of h6)
      · cases h
    · cases h
section
variable {S : Sta} {ρ : Rho} {R : Out → Prop} {x : Str} {p p2 pos pos2 : Pos}
theorem w1_raise {C : Addr} {m : Str} {j : Nat} (h : ExC S x C) (hg : S.sc.names.lookup x = some .globalImplicit) (hdb : (x == ("__debug__" : Str)) = false) (q : S.E (.ref C) none ρ) : W1 S (.Raise (some (.Call (.Name x p) [.Constant (.str m) j p2] [] pos)) none pos2) ρ R := by
  intro X B st σ τ G H E D ok
  have f := st.fit
  refine Tee.W1.by (ps_raise f.calm st.tk (pmk_own PySem.F.excBase_ValueError (by rw [f.K]; exact h.q) (by rw [f.mg]; exact h.mg) (by rw [f.K]; exact h.k) (raises_own (by rw [f.K]; exact h.b) (by rw [f.K]; exact h.t)) (by show X.env.scope.names.lookup x = _; rw [f.sc]; exact hg) hdb)) ?_
  exact ⟨none, ρ, G, q, EnvR.dropAll (cs := τ) (by rw [List.append_nil]; exact E), trivial⟩
end
def ckRaise (y : Str) (C : Ctx) : Stmt → Bool
  | .Raise (some (.Call (.Name x _) [.Constant (.str _) _ _] [] _)) none _ => x == y && C.isG x
  | _ => false
def sRaise (y : Str) : Stm0 where
  ck := ckRaise y
  wp := fun Γ ρ _ => ∃ C, Γ.ex y = some C ∧ Γ.E (.ref C) none ρ
  snd := fun {Γ C S s ρ R} l g h q => by
    unfold ckRaise at h
    split at h
    · rw [Bool.and_eq_true] at h
      have e := eq_of_beq h.1
      subst e
      obtain ⟨A, h1, h2⟩ := q
      exact w1_raise (g.ex _ _ h1) (isG_of l h.2).1 (isG_of l h.2).2 (by rw [g.E]; exact h2)
    · cases h
theorem wv_dct0 {S : Sta} {ρ : Rho} {Q : T → Rho → Prop} {pos : Pos} (q : Q (.dct [] []) ρ) : WV S (.Dict [] [] pos) ρ Q := by
  intro X B st σ τ G H E QV kq
  refine Tee.WE.by pe_dnewK (fun d hd => kq _ _ _ G _ q ?_)
  exact EnvR.closeD (ts := []) (vs := []) (ks := []) (E.fresh hd) rfl rfl (by simp) upd_same
def nDict0 : Nul where
  ck := fun _ e => match e with
    | .Dict [] [] _ => true
    | _ => false
  wp := fun _ ρ Q => Q (.dct [] []) ρ
  pl := false
  plOk := fun h => by cases h
  snd := fun {Γ C S e ρ Q} l g h q => by
    split at h
    · exact wv_dct0 q
    · cases h
def iZipS : Its where
  ck := ckZip
  wp := fun ts ρ Q => ∃ t1 t2 xs ys, ts = [t1, t2] ∧ SeqD t1 xs ∧ SeqD t2 ys ∧ Q (zipD xs ys) ρ
  snd := fun l g h q => by
    unfold ckZip at h
    split at h
    · split at h
      · rename_i hc
        simp only [Bool.and_eq_true] at hc
        obtain ⟨⟨⟨h1, h2⟩, h3⟩, h4⟩ := hc
        have e1 := eq_of_beq h1
        subst e1
        cases h
        exact wi_zip2K q (g _ (by simp)) (isG_of l h2).1 (star_of h3) (star_of h4)
      · cases h
    · cases h
def ckZip3 (C : Ctx) : Expr → Expr → Option (List Expr)
  | .Tuple _ _ _, .Call (.Name x _) [a, b, c] [] _ => if x == ("zip" : Str) && C.isG x && notStar a && notStar b && notStar c then some [a, b, c] else none
  | _, _ => none
def iZip3 : Its where
  ck := ckZip3
  wp := fun ts ρ Q => ∃ t1 t2 t3 xs ys zs, ts = [t1, t2, t3] ∧ SeqD t1 xs ∧ SeqD t2 ys ∧ SeqD t3 zs ∧ Q (zip3D xs ys zs) ρ
  snd := fun l g h q => by
    unfold ckZip3 at h
    split at h
    · split at h
      · rename_i hc
        simp only [Bool.and_eq_true] at hc
        obtain ⟨⟨⟨⟨h1, h2⟩, h3⟩, h4⟩, h5⟩ := hc
        have e1 := eq_of_beq h1
        subst e1
        cases h
        exact wi_zip3 q (g _ (by simp)) (isG_of l h2).1 (star_of h3) (star_of h4) (star_of h5)
      · cases h
    · cases h
def ckEnum (C : Ctx) : Expr → Expr → Option (List Expr)
  | .Tuple _ _ _, .Call (.Name x _) [a] [] _ => if x == ("enumerate" : Str) && C.isG x && notStar a then some [a] else none
  | _, _ => none
def iEnumL : Its where
  ck := ckEnum
  wp := fun ts ρ Q => ∃ t1 xs, ts = [t1] ∧ toD t1 = some (.list xs) ∧ Q (enumD xs) ρ
  snd := fun l g h q => by
    unfold ckEnum at h
    split at h
    · split at h
      · rename_i hc
        simp only [Bool.and_eq_true] at hc
        obtain ⟨⟨h1, h2⟩, h3⟩ := hc
        have e1 := eq_of_beq h1
        subst e1
        cases h
        exact wi_enum q (g _ (by simp)) (isG_of l h2).1 (star_of h3)
      · cases h
    · cases h
def uSumT : Un where
  ck := ckCall "sum"
  wp := fun o ρ Q => ∃ ns : List Int, o.view ρ = some (.tuple (ns.map .int)) ∧ Q (.sh (.int ns.sum)) ρ
  pl := true
  plOk := fun _ => ckCall_plain
  snd := fun l g h q => by
    obtain ⟨p, pos, rfl, h1, h2⟩ := of_ckCall h
    exact wv_sumT q (g _ (by simp)) (isG_of l h1).1 (star_of h2)
def ckStar3 (_ : Ctx) : Expr → Option (Expr × Expr × Expr)
  | .List [a, .Starred b _, c] _ => if notStar a && notStar c then some (a, b, c) else none
  | _ => none
def tListStar : Tri where
  ck := ckStar3
  pre := fun _ t2 => ∃ ds, SeqD t2 ds
  wp := fun _ t1 t2 t3 ρ Q => ∃ ds, SeqD t2 ds ∧ ds.length + 2 ≤ sizeLine ∧ Q (.lst (t1 :: (ds.map .sh ++ [t3]))) ρ
  snd := fun l g h q => by
    unfold ckStar3 at h
    split at h
    · split at h
      · rename_i hc
        rw [Bool.and_eq_true] at hc
        cases h
        exact wv_listStar3 q (star_of hc.1) (star_of hc.2)
      · cases h
    · cases h
def uLen : Un where
  ck := ckCall "len"
  wp := fun o ρ Q => ∃ t, o.tree ρ = some t ∧ LenT t fun n => Q (.sh (.int n)) ρ
  pl := true
  plOk := fun _ => ckCall_plain
  snd := fun l g h q => by
    obtain ⟨p, pos, rfl, h1, h2⟩ := of_ckCall h
    exact wv_len q (g _ (by simp)) (isG_of l h1).1 ⟨fun env => star_of h2 [] env, trivial⟩
end Oak
namespace Oak
open PySem PySem.Spec PyProof.Rows L2
open Tee (Dd DdAll ScrL SysAt CmpD Wd Od KD Stp upTo)
inductive Op2 where
  | sub | fdiv | mod | pow
inductive Bk1 where
  | len | sum | max | min | all | any
inductive Bk2 where
  | max2 | min2
def Bk1.id : Bk1 → String
  | .len => "len" | .sum => "sum" | .max => "max" | .min => "min" | .all => "all" | .any => "any"
def Bk1.D : Bk1 → PyData → (PyData → Prop) → Prop
  | .len => Tee.LenD | .sum => Tee.SumD | .max => Tee.MaxD | .min => Tee.MinD | .all => Tee.AllD | .any => Tee.AnyD
def Bk2.id : Bk2 → String
  | .max2 => "max" | .min2 => "min"
def Bk2.D : Bk2 → PyData → PyData → (PyData → Prop) → Prop
  | .max2 => Tee.Max2D | .min2 => Tee.Min2D
def Op2.C : Op2 → Int → Int → Prop
  | .sub => fun _ _ => True | .fdiv => CDivW | .mod => fun _ j => 0 < j | .pow => CPow
def Op2.g : Op2 → Int → Int → Int
  | .sub => fun i j => i - j | .fdiv => fun i j => i / j | .mod => fun i j => i % j | .pow => fun i j => i ^ j.toNat
inductive CTg where
  | name (i : Nat) | pair (i j : Nat) | triple (i j l : Nat)
  | two (a b : CTg)
mutual
inductive CE where
  | int (i : Int) | str (s : Str) | bl (b : Bool) | non
  | var (i : Nat)
  | glob (x : Str)
  | plus (a b : CE) | times (a b : CE) | op (o : Op2) (a b : CE) | neg (a : CE)
  | cmp (o : CmpOp) (a b : CE) | chain (o o' : CmpOp) (a b c : CE) | chain3 (o o' o'' : CmpOp) (a b c d : CE)
  | not (a : CE) | and (a b : CE) | or (a b : CE)
  | ife (c a b : CE)
  | ix (a b : CE)
  | list (es : CL) | tup (es : CL)
  | call (f : Str) (es : CL)
  | b1 (k : Bk1) (a : CE) | b2 (k : Bk2) (a b : CE)
  | toInt (a : CE)
  | lend (a : CE)
  | frz (a : CE)
  | un (U : Un) (a : CE)
  | nul (U : Nul)
  | tri (U : Tri) (a b c : CE)
  | nar (U : Nar) (es : CL)
  | fz (i : Nat) | mv (i : Nat)
  | bin (U : Bin) (a b : CE)
  | sl (a b c : CE)
  | pop (i : Nat)
  | dctC (kvs : List (Int × Int))
  | lc (e : CE) (tg : CTg) (it : CI) (own : List (Str × Nat))
  | lcIf (e : CE) (tg : CTg) (it : CI) (t : CE) (own : List (Str × Nat))
inductive CL where
  | nil | cons (e : CE) (es : CL)
inductive CI where
  | list (e : CE) | tup (e : CE) | seq (e : CE) | range (e : CE)
  | its (U : Its) (es : CL)
end
def isTg : Expr → Bool
  | .Name .. => true
  | .Tuple .. => true
  | _ => false
def okTg (C : Ctx) : CTg → Expr → Bool
  | .name i, .Name x _ => C.own1 i x
  | .pair i j, .Tuple [.Name x _, .Name y _] _ _ => C.own1 i x && C.own1 j y
  | .triple i j l, .Tuple [.Name x _, .Name y _, .Name z _] _ _ => C.own1 i x && C.own1 j y && C.own1 l z
  | .two a b, .Tuple [x, y] _ _ => okTg C a x && okTg C b y && isTg x && isTg y
  | _, _ => false
def CTg.slots : CTg → List Nat
  | .name i => [i] | .pair i j => [i, j] | .triple i j l => [i, j, l]
  | .two a b => a.slots ++ b.slots
def opIs : Op2 → Operator → Bool
  | .sub, .Sub => true | .fdiv, .FloorDiv => true | .mod, .Mod => true | .pow, .Pow => true
  | _, _ => false
mutual
def CE.owns : CE → List Nat
  | .int _ | .str _ | .bl _ | .non | .var _ | .glob _ | .pop _ | .dctC _ | .nul _ | .fz _ | .mv _ => []
  | .plus a b | .times a b | .op _ a b | .cmp _ a b | .and a b | .or a b | .ix a b | .b2 _ a b | .bin _ a b => a.owns ++ b.owns
  | .neg a | .not a | .b1 _ a | .toInt a | .lend a | .frz a | .un _ a => a.owns
  | .chain _ _ a b c | .ife a b c | .sl a b c | .tri _ a b c => a.owns ++ (b.owns ++ c.owns)
  | .chain3 _ _ _ a b c d => a.owns ++ (b.owns ++ (c.owns ++ d.owns))
  | .list es | .tup es | .call _ es | .nar _ es => es.owns
  | .lc e _ it own => own.map (·.2) ++ (it.owns ++ e.owns)
  | .lcIf e _ it t own => own.map (·.2) ++ (it.owns ++ (e.owns ++ t.owns))
def CL.owns : CL → List Nat
  | .nil => []
  | .cons e es => e.owns ++ es.owns
def CI.owns : CI → List Nat
  | .list e | .tup e | .seq e | .range e => e.owns
  | .its _ es => es.owns
end
mutual
def okE : Nat → Ctx → CE → Expr → Bool
  | 0, _, _, _ => false
  | n + 1, C, .int i, e => match e with
    | .Constant (.int j) _ _ => i == j
    | _ => false
  | n + 1, C, .str s, e => match e with
    | .Constant (.str j) _ _ => s == j
    | _ => false
  | n + 1, C, .bl b, e => match e with
    | .Constant (.bool j) _ _ => b == j
    | _ => false
  | n + 1, C, .non, e => match e with
    | .Constant .none _ _ => true
    | _ => false
  | n + 1, C, .var i, e => match e with
    | .Name x _ => C.N[i]? == some x && C.vis x && okName x
    | _ => false
  | n + 1, C, .glob y, e => match e with
    | .Name x _ => x == y && C.isG x
    | _ => false
  | n + 1, C, .plus a b, e => match e with
    | .BinOp x .Add y _ => okE n C a x && okE n C b y
    | _ => false
  | n + 1, C, .times a b, e => match e with
    | .BinOp x .Mult y _ => okE n C a x && okE n C b y
    | _ => false
  | n + 1, C, .op o a b, e => match e with
    | .BinOp x p y _ => opIs o p && okE n C a x && okE n C b y
    | _ => false
  | n + 1, C, .neg a, e => match e with
    | .UnaryOp .USub x _ => okE n C a x
    | _ => false
  | n + 1, C, .cmp o a b, e => match e with
    | .Compare x [p] [y] _ => o == p && okE n C a x && okE n C b y && notSet y
    | _ => false
  | n + 1, C, .chain o o' a b c, e => match e with
    | .Compare x [p, p'] [y, z] _ => o == p && o' == p' && okE n C a x && okE n C b y && okE n C c z && notSet z
    | _ => false
  | n + 1, C, .chain3 o o' o'' a b c d, e => match e with
    | .Compare x [p, p', p''] [y, z, w] _ => o == p && o' == p' && o'' == p'' && okE n C a x && okE n C b y && okE n C c z && okE n C d w && notSet w
    | _ => false
  | n + 1, C, .not a, e => match e with
    | .UnaryOp .Not x _ => okE n C a x
    | _ => false
  | n + 1, C, .and a b, e => match e with
    | .BoolOp .And (x :: xs) _ => okE n C a x && okAnd n C b xs
    | _ => false
  | n + 1, C, .or a b, e => match e with
    | .BoolOp .Or (x :: xs) _ => okE n C a x && okOr n C b xs
    | _ => false
  | n + 1, C, .ife c a b, e => match e with
    | .IfExp z x y _ => okE n C c z && okE n C a x && okE n C b y
    | _ => false
  | n + 1, C, .ix a b, e => match e with
    | .Subscript x y _ => okE n C a x && okE n C b y && (match y with
      | .Slice .. => false
      | _ => true)
    | _ => false
  | n + 1, C, .list es, e => match e with
    | .List xs _ => okL n C es xs
    | _ => false
  | n + 1, C, .tup es, e => match e with
    | .Tuple xs _ _ => okL n C es xs
    | _ => false
  | n + 1, C, .call f es, e => match e with
    | .Call (.Name x _) (y :: ys) [] _ => x == f && C.isG x && okL n C es (y :: ys)
    | _ => false
  | n + 1, C, .b1 k a, e => match e with
    | .Call (.Name x _) [y] [] _ => x == (k.id : Str) && C.isG x && okE n C a y && notStar y
    | _ => false
  | n + 1, C, .b2 k a b, e => match e with
    | .Call (.Name x _) [y, z] [] _ => x == (k.id : Str) && C.isG x && okE n C a y && okE n C b z && notStar y && notStar z
    | _ => false
  | n + 1, C, .toInt a, e => match e with
    | .Call (.Name x _) [y] [] _ => x == ("int" : Str) && C.isG x && okE n C a y && notStar y
    | _ => false
  | n + 1, C, .lend a, e => okE n C a e
  | n + 1, C, .frz a, e => okE n C a e
  | n + 1, C, .un U a, e => match U.ck C e with
    | some x => okE n C a x
    | none => false
  | n + 1, C, .nul U, e => U.ck C e
  | n + 1, C, .tri U a b c, e => match U.ck C e with
    | some (x, y, z) => okE n C a x && okE n C b y && okE n C c z
    | none => false
  | n + 1, C, .nar U es, e => match U.ck C e with
    | some xs => okL n C es xs
    | none => false
  | n + 1, C, .fz i, e => match e with
    | .Name x _ => C.N[i]? == some x && C.vis x && okName x
    | _ => false
  | n + 1, C, .mv i, e => match e with
    | .Name x _ => C.N[i]? == some x && C.vis x && okName x
    | _ => false
  | n + 1, C, .bin U a b, e => match U.ck C e with
    | some (x, y) => okE n C a x && okE n C b y
    | none => false
  | n + 1, C, .sl a b c, e => match e with
    | .Subscript x (.Slice (some y) (some z) none _) _ => okE n C a x && okE n C b y && okE n C c z
    | _ => false
  | n + 1, C, .dctC kvs, e => match e with
    | .Dict keys values _ => cPairs keys values == some kvs && decide ((kvs.map (·.1)).Nodup) && !kvs.isEmpty && decide (kvs.length ≤ 15)
    | _ => false
  | n + 1, C, .pop i, e => match e with
    | .Call (.Attribute (.Name x _) m pa) [] [] pc => m == ("pop" : Str) && C.N[i]? == some x && C.vis x && okName x && pa.endLine == pc.line
    | _ => false
  | n + 1, C, .lc a tg it own, e => match e with
    | .ListComp x [⟨t, i, [], 0⟩] scope _ => okI n C it t i && okTg (C.inBlk scope) tg t && okE n (C.inBlk scope) a x && blkC C.N C.sc scope own && tg.slots.all (fun j => (own.map (·.2)).contains j) && notSet i
    | _ => false
  | n + 1, C, .lcIf a tg it c own, e => match e with
    | .ListComp x [⟨t, i, [y], 0⟩] scope _ => okI n C it t i && okTg (C.inBlk scope) tg t && okE n (C.inBlk scope) a x && okE n (C.inBlk scope) c y && blkC C.N C.sc scope own && tg.slots.all (fun j => (own.map (·.2)).contains j) && notSet i
    | _ => false
def okAnd : Nat → Ctx → CE → List Expr → Bool
  | 0, _, _, _ => false
  | n + 1, C, c, xs => match xs with
    | [x] => okE n C c x
    | x :: y :: ys => match c with
      | .and a b => okE n C a x && okAnd n C b (y :: ys)
      | _ => false
    | [] => false
def okOr : Nat → Ctx → CE → List Expr → Bool
  | 0, _, _, _ => false
  | n + 1, C, c, xs => match xs with
    | [x] => okE n C c x
    | x :: y :: ys => match c with
      | .or a b => okE n C a x && okOr n C b (y :: ys)
      | _ => false
    | [] => false
def okL : Nat → Ctx → CL → List Expr → Bool
  | 0, _, _, _ => false
  | n + 1, C, .nil, xs => xs.isEmpty
  | n + 1, C, .cons e es, xs => match xs with
    | x :: ys => okE n C e x && notStar x && okL n C es ys
    | [] => false
def okI : Nat → Ctx → CI → Expr → Expr → Bool
  | 0, _, _, _, _ => false
  | n + 1, C, .list e, _, x => okE n C e x
  | n + 1, C, .tup e, _, x => okE n C e x
  | n + 1, C, .seq e, _, x => okE n C e x
  | n + 1, C, .range e, _, x => match x with
    | .Call (.Name f _) [y] [] _ => f == ("range" : Str) && C.isG f && okE n C e y && notStar y
    | _ => false
  | n + 1, C, .its U es, t, x => match U.ck C t x with
    | some ys => okL n C es ys
    | none => false
end
end Oak
namespace Oak
open PySem PySem.Spec PyProof.Rows L2
open Tee (Dd DdAll ScrL SysAt CmpD Wd Od KD Stp upTo)
def goLc (tg : PyData → Rho → (Rho → Prop) → Prop) (test : Rho → (Bool → Rho → Prop) → Prop) (el : Rho → (T → Rho → Prop) → Prop) (vs : List Nat) (Q : List T → Rho → Prop) : List PyData → List T → Rho → Prop
  | [], acc, ρ => Q acc ρ
  | d :: ds, acc, ρ => tg d ρ fun ρ1 => test ρ1 fun k ρ2 => (k = true → el ρ2 fun t ρ3 => goLc tg test el vs Q ds (acc ++ [t]) (wipeR ρ3 vs)) ∧ (k = false → goLc tg test el vs Q ds acc (wipeR ρ2 vs))
def wpTg : CTg → PyData → Rho → (Rho → Prop) → Prop
  | .name i, d, ρ, k => k (ρ.set i (some (.sh d)))
  | .pair i j, d, ρ, k => ∃ d1 d2, (d = .tuple [d1, d2] ∨ d = .list [d1, d2]) ∧ k ((ρ.set i (some (.sh d1))).set j (some (.sh d2)))
  | .triple i j l, d, ρ, k => ∃ d1 d2 d3, (d = .tuple [d1, d2, d3] ∨ d = .list [d1, d2, d3]) ∧ k (((ρ.set i (some (.sh d1))).set j (some (.sh d2))).set l (some (.sh d3)))
  | .two a b, d, ρ, k => ∃ d1 d2, (d = .tuple [d1, d2] ∨ d = .list [d1, d2]) ∧ wpTg a d1 ρ fun ρ1 => wpTg b d2 ρ1 k
def CE.plainC : CE → Bool
  | .var _ => true
  | .glob _ => true
  | .ix _ _ => true
  | .call _ _ => true
  | .b1 _ _ => true
  | .b2 _ _ _ => true
  | .toInt _ => true
  | .un U _ => U.pl
  | .nul U => U.pl
  | .nar U _ => U.pl
  | .fz _ => true
  | .bl _ => true
  | _ => false
def rdVar (i : Nat) (ρ : Rho) (Q : T → Rho → Prop) : Prop := match ρ[i]? with
  | some (some (.sh d)) => Q (.sh d) ρ
  | some (some t) => match toD t with
    | some d => Q (.sh d) (ρ.set i (some (.sh d)))
    | none => Q t (ρ.set i none)
  | _ => False
def mvVar (i : Nat) (ρ : Rho) (Q : T → Rho → Prop) : Prop := match ρ[i]? with
  | some (some t) => Q t (ρ.set i none)
  | _ => False
def argVar (i : Nat) (ρ : Rho) (Q : Arg → Rho → Prop) : Prop := match ρ[i]? with
  | some (some (.sh d)) => Q (.val (.sh d)) ρ
  | some (some _) => Q (.bor i) ρ
  | _ => False
def callW (W : Wp) (as : List Arg) (ρ : Rho) (Q : T → Rho → Prop) (E : Value → XF → Rho → Prop) : Prop := match qg0 as ρ with
  | some p => W p.1 (fun t ts' => Q t (qb0 as ts' p.2)) fun cls fs ts' => E cls fs (qb0 as ts' p.2)
  | none => False
def callP (o : Option Wp) (A : (List Arg → Rho → Prop) → Prop) (Q : T → Rho → Prop) (E : Value → XF → Rho → Prop) : Prop := match o with
  | some W => A fun as ρ1 => callW W as ρ1 Q E
  | none => False
def ctP (o : Option Int) (ρ : Rho) (Q : T → Rho → Prop) : Prop := match o with
  | some i => Q (.sh (.int i)) ρ
  | none => False
theorem callW_of {W : Wp} {as : List Arg} {ρ : Rho} {Q : T → Rho → Prop} {E : Value → XF → Rho → Prop} (h : callW W as ρ Q E) : ∃ ts ρ2, qg0 as ρ = some (ts, ρ2) ∧ W ts (fun t ts' => Q t (qb0 as ts' ρ2)) fun cls fs ts' => E cls fs (qb0 as ts' ρ2) := by
  unfold callW at h
  split at h
  · rename_i p e; exact ⟨p.1, p.2, e, h⟩
  · exact h.elim
mutual
def wpV (Γ : Gam) : CE → Rho → (T → Rho → Prop) → Prop
  | .int i, ρ, Q => Q (.sh (.int i)) ρ
  | .str s, ρ, Q => Q (.sh (.str s)) ρ
  | .bl b, ρ, Q => Q (.sh (.bool b)) ρ
  | .non, ρ, Q => Q (.sh .none) ρ
  | .var i, ρ, Q => rdVar i ρ Q
  | .glob x, ρ, Q => ctP (Γ.ct x) ρ Q
  | .plus a b, ρ, Q => wpO Γ a ρ fun oa ρ1 => wpO Γ b ρ1 fun ob ρ2 => PlusO oa ob ρ2 Q
  | .times a b, ρ, Q => wpO Γ a ρ fun oa ρ1 => wpO Γ b ρ1 fun ob ρ2 => TimesO oa ob ρ2 Q
  | .op o a b, ρ, Q => wpO Γ a ρ fun oa ρ1 => wpO Γ b ρ1 fun ob ρ2 => IntO o.C o.g oa ob ρ2 Q
  | .neg a, ρ, Q => wpO Γ a ρ fun oa ρ1 => ∃ i, oa.view ρ1 = some (.int i) ∧ Q (.sh (.int (-i))) ρ1
  | .cmp o a b, ρ, Q => wpO Γ a ρ fun oa ρ1 => wpO Γ b ρ1 fun ob ρ2 => CmpO o oa ob ρ2 fun k => Q (.sh (.bool k)) ρ2
  | .chain o o' a b c, ρ, Q => wpO Γ a ρ fun oa ρ1 => wpO Γ b ρ1 fun ob ρ2 => CmpO o oa ob ρ2 fun k => (k = true → wpO Γ c ρ2 fun oc ρ3 => CmpO o' ob oc ρ3 fun k => Q (.sh (.bool k)) ρ3) ∧ (k = false → Q (.sh (.bool false)) ρ2)
  | .chain3 o o' o'' a b c d, ρ, Q => wpO Γ a ρ fun oa ρ1 => wpO Γ b ρ1 fun ob ρ2 => CmpO o oa ob ρ2 fun k => (k = true → wpO Γ c ρ2 fun oc ρ3 => CmpO o' ob oc ρ3 fun k => (k = true → wpO Γ d ρ3 fun od ρ4 => CmpO o'' oc od ρ4 fun k => Q (.sh (.bool k)) ρ4) ∧ (k = false → Q (.sh (.bool false)) ρ3)) ∧ (k = false → Q (.sh (.bool false)) ρ2)
  | .not a, ρ, Q => wpV Γ a ρ fun t ρ1 => ∃ k, t = .sh (.bool k) ∧ Q (.sh (.bool (!k))) ρ1
  | .and a b, ρ, Q => wpV Γ a ρ fun t ρ1 => ∃ k, t = .sh (.bool k) ∧ (k = true → wpV Γ b ρ1 Q) ∧ (k = false → Q (.sh (.bool false)) ρ1)
  | .or a b, ρ, Q => wpV Γ a ρ fun t ρ1 => ∃ k, t = .sh (.bool k) ∧ (k = false → wpV Γ b ρ1 Q) ∧ (k = true → Q (.sh (.bool true)) ρ1)
  | .ife c a b, ρ, Q => wpT Γ c ρ fun k ρ1 => (k = true → wpV Γ a ρ1 Q) ∧ (k = false → wpV Γ b ρ1 Q)
  | .ix a b, ρ, Q => wpO Γ a ρ fun oa ρ1 => wpO Γ b ρ1 fun ob ρ2 => IxO oa ob ρ2 Q
  | .list es, ρ, Q => wpL Γ es ρ fun ts ρ1 => ts.length ≤ sizeLine ∧ Q (.lst ts) ρ1
  | .tup es, ρ, Q => wpL Γ es ρ fun ts ρ1 => ts.length ≤ sizeLine ∧ Q (.tup ts) ρ1
  | .call f es, ρ, Q => callP (Γ.fn f) (fun K => wpA Γ es ρ K) Q Γ.E
  | .b1 k a, ρ, Q => wpO Γ a ρ fun o ρ1 => ∃ d, o.view ρ1 = some d ∧ k.D d fun r => atom r = true ∧ Q (.sh r) ρ1
  | .b2 k a b, ρ, Q => wpO Γ a ρ fun oa ρ1 => wpO Γ b ρ1 fun ob ρ2 => ∃ d d', oa.view ρ2 = some d ∧ ob.view ρ2 = some d' ∧ k.D d d' fun r => atom r = true ∧ Q (.sh r) ρ2
  | .toInt a, ρ, Q => wpO Γ a ρ fun o ρ1 => ∃ d, o.view ρ1 = some d ∧ Tee.IntD d fun r => atom r = true ∧ Q (.sh r) ρ1
  | .un U a, ρ, Q => wpO Γ a ρ fun o ρ1 => U.wp o ρ1 Q
  | .nul U, ρ, Q => U.wp Γ ρ Q
  | .tri U a b c, ρ, Q => wpV Γ a ρ fun t1 ρ1 => wpV Γ b ρ1 fun t2 ρ2 => U.pre t1 t2 ∧ wpV Γ c ρ2 fun t3 ρ3 => U.wp Γ t1 t2 t3 ρ3 Q
  | .nar U es, ρ, Q => wpL Γ es ρ fun ts ρ1 => U.wp Γ ts ρ1 Q
  | .fz i, ρ, Q => rdVar i ρ Q
  | .mv i, ρ, Q => mvVar i ρ Q
  | .bin U a b, ρ, Q => wpO Γ a ρ fun oa ρ1 => U.pre oa ρ1 ∧ wpO Γ b ρ1 fun ob ρ2 => U.wp oa ob ρ2 Q
  | .sl a b c, ρ, Q => wpO Γ a ρ fun oa ρ1 => wpO Γ b ρ1 fun ob ρ2 => ∃ i, ob.view ρ2 = some (.int i) ∧ wpO Γ c ρ2 fun oc ρ3 => ∃ j, oc.view ρ3 = some (.int j) ∧ SlO oa (some i) (some j) ρ3 Q
  | .dctC kvs, ρ, Q => Q (.dct (kys (kvs.map (·.1))) (kvs.map fun p => .sh (.int p.2))) ρ
  | .pop i, ρ, Q => ∃ ts t, ρ[i]? = some (some (.lst (ts ++ [t]))) ∧ Q t (ρ.set i (some (.lst ts)))
  | .frz a, ρ, Q => wpV Γ a ρ fun t ρ1 => ∃ d, toD t = some d ∧ Q (.sh d) ρ1
  | .lend a, ρ, Q => (∀ j ∈ a.owns, j ∉ liveOf 0 ρ) ∧ wpV (Γ.lend ρ) a (shR ρ) fun t _ => flatT t = true ∧ Q t ρ
  | .lc e tg it own, ρ, Q => wpI Γ it ρ fun ds ρ1 => ds.length ≤ 1000000 ∧ goLc (wpTg tg) (fun ρ k => k true ρ) (fun ρ k => wpV Γ.calm e ρ k) (own.map (·.2)) (fun acc ρ2 => Q (.lst acc) ρ2) ds [] (wipeR ρ1 (own.map (·.2)))
  | .lcIf e tg it t own, ρ, Q => wpI Γ it ρ fun ds ρ1 => ds.length ≤ 1000000 ∧ goLc (wpTg tg) (fun ρ k => wpT Γ.calm t ρ k) (fun ρ k => wpV Γ.calm e ρ k) (own.map (·.2)) (fun acc ρ2 => Q (.lst acc) ρ2) ds [] (wipeR ρ1 (own.map (·.2)))
def wpO (Γ : Gam) : CE → Rho → (Opd → Rho → Prop) → Prop
  | .var i, ρ, Q => ∃ t, ρ[i]? = some (some t) ∧ Q (.var i) ρ
  | .int i, ρ, Q => Q (.tmp (.sh (.int i))) ρ
  | e, ρ, Q => wpV Γ e ρ fun t ρ1 => Q (.tmp t) ρ1
def wpT (Γ : Gam) : CE → Rho → (Bool → Rho → Prop) → Prop
  | .cmp o a b, ρ, Q => wpO Γ a ρ fun oa ρ1 => wpO Γ b ρ1 fun ob ρ2 => CmpO o oa ob ρ2 fun k => Q k ρ2
  | .chain o o' a b c, ρ, Q => wpO Γ a ρ fun oa ρ1 => wpO Γ b ρ1 fun ob ρ2 => CmpO o oa ob ρ2 fun k => (k = true → wpO Γ c ρ2 fun oc ρ3 => CmpO o' ob oc ρ3 fun k => Q k ρ3) ∧ (k = false → Q false ρ2)
  | .chain3 o o' o'' a b c d, ρ, Q => wpO Γ a ρ fun oa ρ1 => wpO Γ b ρ1 fun ob ρ2 => CmpO o oa ob ρ2 fun k => (k = true → wpO Γ c ρ2 fun oc ρ3 => CmpO o' ob oc ρ3 fun k => (k = true → wpO Γ d ρ3 fun od ρ4 => CmpO o'' oc od ρ4 fun k => Q k ρ4) ∧ (k = false → Q false ρ3)) ∧ (k = false → Q false ρ2)
  | .not a, ρ, Q => wpT Γ a ρ fun k ρ1 => Q (!k) ρ1
  | .and a b, ρ, Q => wpT Γ a ρ fun k ρ1 => (k = true → wpT Γ b ρ1 Q) ∧ (k = false → Q false ρ1)
  | .or a b, ρ, Q => wpT Γ a ρ fun k ρ1 => (k = false → wpT Γ b ρ1 Q) ∧ (k = true → Q true ρ1)
  | .lend a, ρ, Q => (∀ j ∈ a.owns, j ∉ liveOf 0 ρ) ∧ wpT (Γ.lend ρ) a (shR ρ) fun k _ => Q k ρ
  | e, ρ, Q => e.plainC = true ∧ wpO Γ e ρ fun o ρ1 => ∃ d k, o.view ρ1 = some d ∧ TruO d = some k ∧ Q k ρ1
def wpL (Γ : Gam) : CL → Rho → (List T → Rho → Prop) → Prop
  | .nil, ρ, Q => Q [] ρ
  | .cons e es, ρ, Q => wpV Γ e ρ fun t ρ1 => wpL Γ es ρ1 fun ts ρ2 => Q (t :: ts) ρ2
def wpA (Γ : Gam) : CL → Rho → (List Arg → Rho → Prop) → Prop
  | .nil, ρ, Q => Q [] ρ
  | .cons e es, ρ, Q => match e with
    | .var i => argVar i ρ fun a ρ1 => wpA Γ es ρ1 fun as ρ2 => Q (a :: as) ρ2
    | e => wpV Γ e ρ fun t ρ1 => wpA Γ es ρ1 fun as ρ2 => Q (.val t :: as) ρ2
def wpI (Γ : Gam) : CI → Rho → (List PyData → Rho → Prop) → Prop
  | .list e, ρ, Q => wpV Γ e ρ fun t ρ1 => ∃ ds, toD t = some (.list ds) ∧ Q ds ρ1
  | .tup e, ρ, Q => wpV Γ e ρ fun t ρ1 => ∃ ds, toD t = some (.tuple ds) ∧ Q ds ρ1
  | .seq e, ρ, Q => wpV Γ e ρ fun t ρ1 => ∃ ds, (toD t = some (.list ds) ∨ toD t = some (.tuple ds)) ∧ Q ds ρ1
  | .range e, ρ, Q => wpO Γ e ρ fun o ρ1 => ∃ n : Int, o.view ρ1 = some (.int n) ∧ -(2 ^ 62) ≤ n ∧ n < 2 ^ 62 ∧ Q (upTo n.toNat) ρ1
  | .its U es, ρ, Q => wpL Γ es ρ fun ts ρ1 => U.wp ts ρ1 Q
end
end Oak
namespace Oak
open PySem PySem.Spec PyProof.Rows L2
open Tee (Dd DdAll ScrL SysAt tU tUT tUW tUS pe_U pt_U pw_U pss_U CmpD rCmp opr_cmp isNone Wd Od KD Stp)
def tChain3 (r r' r'' : R2) (ta tb tc td : TE) : TE := fun σ H Q => ta σ H fun x H1 => tb σ H1 fun y H2 => r x y H2 fun z H3 => ∃ k, z = .bl k ∧
  (if k = true then tc σ H3 fun w H4 => r' y w H4 fun z H5 => ∃ k, z = .bl k ∧ (if k = true then td σ H5 fun w' H6 => r'' w w' H6 Q else Q (.bl false) H5) else Q (.bl false) H3)
section
variable {X : Cx} {a b c d : Expr} {ta tb tc td : TE} {pos : Pos}
theorem pe_chain3 {op op' op'' : CmpOp} {r r' r'' : R2} (ho : OpR X (compareOp op) r) (ho' : OpR X (compareOp op') r') (ho'' : OpR X (compareOp op'') r'') (ha : PE X a ta) (hb : PE X b tb) (hc : PE X c tc) (hd : PE X d td)
    (hm : lastMarks [op, op', op''] [b, c, d] = false) : PE X (.Compare a [op, op', op''] [b, c, d] pos) (tChain3 r r' r'' ta tb tc td) := by
  refine ⟨fun pins s σ H Q I h => ?_⟩
  refine Compare_chain (thn (ha.run pins s σ H _ I h) fun v s1 ⟨x, H1, I1, r1, q1⟩ => chain_link (thn (hb.run pins s1 σ H1 _ I1 q1) fun u s2 ⟨y, H2, I2, r2, q2⟩ =>
    thn (ho pins s2 σ H2 x y v u _ I2 r1 r2 q2) fun d s3 ⟨z, H3, I3, r3, k, e, q3⟩ => ?_)) hm
  subst e
  cases r3
  refine wpAny_truthy_bool ?_
  cases k with
  | false => exact ite_ff ⟨.bl false, H3, I3, rfl, q3⟩
  | true =>
    refine ite_tt (chain_link (thn (hc.run pins s3 σ H3 _ I3 q3) fun w' s4 ⟨z', H4, I4, r4, q4⟩ => thn (ho' pins s4 σ H4 y z' u w' _ I4 r2 r4 q4) fun d' s5 ⟨z2, H5, I5, r5, k2, e2, q5⟩ => ?_))
    subst e2
    cases r5
    refine wpAny_truthy_bool ?_
    cases k2 with
    | false => exact ite_ff ⟨.bl false, H5, I5, rfl, q5⟩
    | true => exact ite_tt (chain_last (thn (hd.run pins s5 σ H5 _ I5 q5) fun w3 s6 ⟨z3, H6, I6, r6, q6⟩ => ho'' pins s6 σ H6 z' z3 w' w3 Q I6 r4 r6 q6))
theorem pt_chain3 {op op' op'' : CmpOp} {r r' r'' : R2} (ho : OpR X (compareOp op) r) (ho' : OpR X (compareOp op') r') (ho'' : OpR X (compareOp op'') r'') (ha : PE X a ta) (hb : PE X b tb) (hc : PE X c tc) (hd : PE X d td)
    (hm : lastMarks [op, op', op''] [b, c, d] = false) : PT X (.Compare a [op, op', op''] [b, c, d] pos) (tTest (tChain3 r r' r'' ta tb tc td)) := by
  refine ⟨fun pins s σ H Q I h => ?_⟩
  refine isTrue_chain (thn (ha.run pins s σ H _ I h) fun v s1 ⟨x, H1, I1, r1, q1⟩ => test_link (thn (hb.run pins s1 σ H1 _ I1 q1) fun u s2 ⟨y, H2, I2, r2, q2⟩ =>
    thn (ho pins s2 σ H2 x y v u _ I2 r1 r2 q2) fun d s3 ⟨z, H3, I3, r3, k, e, q3⟩ => ?_)) hm
  subst e
  cases r3
  refine wpAny_truthy_bool ?_
  cases k with
  | false =>
    obtain ⟨k', e', q'⟩ := q3
    cases e'
    exact ite_ff ⟨H3, I3, q'⟩
  | true =>
    refine ite_tt (test_link (thn (hc.run pins s3 σ H3 _ I3 q3) fun w' s4 ⟨z', H4, I4, r4, q4⟩ => thn (ho' pins s4 σ H4 y z' u w' _ I4 r2 r4 q4) fun d' s5 ⟨z2, H5, I5, r5, k2, e2, q5⟩ => ?_))
    subst e2
    cases r5
    refine wpAny_truthy_bool ?_
    cases k2 with
    | false =>
      obtain ⟨k', e', q'⟩ := q5
      cases e'
      exact ite_ff ⟨H5, I5, q'⟩
    | true =>
      refine ite_tt (test_last (thn (hd.run pins s5 σ H5 _ I5 q5) fun w3 s6 ⟨z3, H6, I6, r6, q6⟩ => thn (ho'' pins s6 σ H6 z' z3 w' w3 _ I6 r4 r6 q6) fun d3 s7 ⟨z4, H7, I7, r7, k3, e3, q7⟩ => ?_))
      subst e3
      cases r7
      exact wpAny_truthy_bool ⟨H7, I7, q7⟩
end
section
variable {S : Sta} {ρ : Rho} {a b c d : Expr} {pos : Pos} {op op' op'' : CmpOp}
theorem wv_chain3 {Q : T → Rho → Prop} (h : WO S a ρ fun oa ρ1 => WO S b ρ1 fun ob ρ2 => CmpO op oa ob ρ2 fun k => (k = true → WO S c ρ2 fun oc ρ3 => CmpO op' ob oc ρ3 fun k => (k = true → WO S d ρ3 fun od ρ4 => CmpO op'' oc od ρ4 fun k => Q (.sh (.bool k)) ρ4) ∧ (k = false → Q (.sh (.bool false)) ρ3)) ∧ (k = false → Q (.sh (.bool false)) ρ2))
    (hm : lastMarks [op, op', op''] [b, c, d] = false) : WV S (.Compare a [op, op', op''] [b, c, d] pos) ρ Q := by
  intro X B st σ τ G H E QV kq pins s I
  refine (pe_chain3 (opr_cmpX (room65 st.fit.room) op) (opr_cmpX (room65 st.fit.room) op') (opr_cmpX (room65 st.fit.room) op'') pe_U pe_U pe_U pe_U hm).run pins s σ H QV I (two st E h fun oa ob ρ2 v u G2 H2 q E2 ok1 ok2 => ?_)
  obtain ⟨da, db, e1, e2, q⟩ := q
  refine cmpX_sound (Opd.dd (Opd.drop E2) ok1 e1) (Opd.dd E2 ok2 e2) q fun k q => ⟨k, rfl, ?_⟩
  cases k with
  | true =>
    rw [if_pos rfl]
    refine (q.1 rfl) X B st σ _ G2 H2 E2 _ fun oc ρ3 z G3 H3 q3 E3 ok3 => ?_
    obtain ⟨db', dc, e3, e4, q3⟩ := q3
    refine cmpX_sound (Opd.dd (Opd.drop E3) ok2 e3) (Opd.dd E3 ok3 e4) q3 fun k q3 => ⟨k, rfl, ?_⟩
    cases k with
    | true =>
      rw [if_pos rfl]
      refine (q3.1 rfl) X B st σ _ G3 H3 E3 _ fun od ρ4 z4 G4 H4 q4 E4 ok4 => ?_
      obtain ⟨dc', dd, e5, e6, q4⟩ := q4
      exact cmpX_sound (Opd.dd (Opd.drop E4) ok3 e5) (Opd.dd E4 ok4 e6) q4 fun k q5 => kq _ _ _ _ _ q5 ((Opd.drop (Opd.drop (Opd.drop (Opd.drop E4)))).bl k)
    | false =>
      rw [if_neg (by decide)]
      exact kq _ _ _ _ _ (q3.2 rfl) ((Opd.drop (Opd.drop (Opd.drop E3))).bl false)
  | false =>
    rw [if_neg (by decide)]
    exact kq _ _ _ _ _ (q.2 rfl) ((Opd.drop (Opd.drop E2)).bl false)
theorem wt_chain3 {Q : Bool → Rho → Prop} (h : WO S a ρ fun oa ρ1 => WO S b ρ1 fun ob ρ2 => CmpO op oa ob ρ2 fun k => (k = true → WO S c ρ2 fun oc ρ3 => CmpO op' ob oc ρ3 fun k => (k = true → WO S d ρ3 fun od ρ4 => CmpO op'' oc od ρ4 fun k => Q k ρ4) ∧ (k = false → Q false ρ3)) ∧ (k = false → Q false ρ2))
    (hm : lastMarks [op, op', op''] [b, c, d] = false) : WT S (.Compare a [op, op', op''] [b, c, d] pos) ρ Q := by
  intro X B st σ τ G H E QV kq pins s I
  refine (pt_chain3 (opr_cmpX (room65 st.fit.room) op) (opr_cmpX (room65 st.fit.room) op') (opr_cmpX (room65 st.fit.room) op'') pe_U pe_U pe_U pe_U hm).run pins s σ H QV I (two st E h fun oa ob ρ2 v u G2 H2 q E2 ok1 ok2 => ?_)
  obtain ⟨da, db, e1, e2, q⟩ := q
  refine cmpX_sound (Opd.dd (Opd.drop E2) ok1 e1) (Opd.dd E2 ok2 e2) q fun k q => ⟨k, rfl, ?_⟩
  cases k with
  | true =>
    rw [if_pos rfl]
    refine (q.1 rfl) X B st σ _ G2 H2 E2 _ fun oc ρ3 z G3 H3 q3 E3 ok3 => ?_
    obtain ⟨db', dc, e3, e4, q3⟩ := q3
    refine cmpX_sound (Opd.dd (Opd.drop E3) ok2 e3) (Opd.dd E3 ok3 e4) q3 fun k q3 => ⟨k, rfl, ?_⟩
    cases k with
    | true =>
      rw [if_pos rfl]
      refine (q3.1 rfl) X B st σ _ G3 H3 E3 _ fun od ρ4 z4 G4 H4 q4 E4 ok4 => ?_
      obtain ⟨dc', dd, e5, e6, q4⟩ := q4
      exact cmpX_sound (Opd.dd (Opd.drop E4) ok3 e5) (Opd.dd E4 ok4 e6) q4 fun k q5 => ⟨k, rfl, kq _ _ _ _ q5 (Opd.drop (Opd.drop (Opd.drop (Opd.drop E4))))⟩
    | false =>
      rw [if_neg (by decide)]
      exact ⟨false, rfl, kq _ _ _ _ (q3.2 rfl) (Opd.drop (Opd.drop (Opd.drop E3)))⟩
  | false =>
    rw [if_neg (by decide)]
    exact ⟨false, rfl, kq _ _ _ _ (q.2 rfl) (Opd.drop (Opd.drop E2))⟩
end
end Oak
namespace Oak
open PySem PySem.Spec PyProof.Rows L2
open Tee (Dd DdAll ScrL SysAt CmpD Wd Od KD Stp upTo)
theorem okE_pos {n : Nat} {C : Ctx} {c : CE} {e : Expr} (h : okE n C c e = true) : ∃ m, n = m + 1 := by
  cases n with
  | zero => unfold okE at h; cases h
  | succ m => exact ⟨m, rfl⟩
theorem okAnd_pos {n : Nat} {C : Ctx} {c : CE} {e : List Expr} (h : okAnd n C c e = true) : ∃ m, n = m + 1 := by
  cases n with
  | zero => unfold okAnd at h; cases h
  | succ m => exact ⟨m, rfl⟩
theorem okOr_pos {n : Nat} {C : Ctx} {c : CE} {e : List Expr} (h : okOr n C c e = true) : ∃ m, n = m + 1 := by
  cases n with
  | zero => unfold okOr at h; cases h
  | succ m => exact ⟨m, rfl⟩
theorem okL_pos {n : Nat} {C : Ctx} {c : CL} {e : List Expr} (h : okL n C c e = true) : ∃ m, n = m + 1 := by
  cases n with
  | zero => unfold okL at h; cases h
  | succ m => exact ⟨m, rfl⟩
theorem okI_pos {n : Nat} {C : Ctx} {c : CI} {t e : Expr} (h : okI n C c t e = true) : ∃ m, n = m + 1 := by
  cases n with
  | zero => unfold okI at h; cases h
  | succ m => exact ⟨m, rfl⟩
theorem b1_ok (S : Tee.Sta) : ∀ k : Bk1, B1 S k.id k.D
  | .len => ok_LenD | .sum => ok_SumD | .max => ok_MaxD | .min => ok_MinD | .all => ok_AllD | .any => ok_AnyD
theorem b2_ok (S : Tee.Sta) : ∀ k : Bk2, B2 S k.id k.D
  | .max2 => ok_Max2D | .min2 => ok_Min2D
theorem Gam.Ok.blk {Γ : Gam} {S : Sta} (h : Γ.Ok S) (scope : Scope) : Γ.calm.Ok (S.blk scope) := ⟨fun x W e => let ⟨k, h1, h2⟩ := h.fn x W e; ⟨k, h1, ⟨h2.ex⟩⟩, h.ct, h.blt, rfl, fun x C e => let z := h.ex x C e; ⟨z.mg, z.q, z.k, z.b, z.t⟩⟩
theorem Gam.Ok.lend {Γ : Gam} {S : Sta} (h : Γ.Ok S) (ρ : Rho) : (Γ.lend ρ).Ok (S.lend ρ) := ⟨fun x W e => let ⟨k, h1, h2⟩ := h.fn x W e; ⟨k, h1, ⟨h2.ex⟩⟩, h.ct, h.blt, by
  show (fun (cls : Value) (fs : XF) (_ : Rho) => flatX fs = true ∧ S.E cls fs ρ) = fun cls fs _ => flatX fs = true ∧ Γ.E cls fs ρ
  rw [h.E], fun x C e => let z := h.ex x C e; ⟨z.mg, z.q, z.k, z.b, z.t⟩⟩
theorem ix_of {b : Expr} (h : (match b with
    | .Slice .. => false
    | _ => true) = true) : PlainIx b := by
  intro o i
  cases b <;> first | rfl | cases h
theorem opIs_of {o : Op2} {p : Operator} (h : opIs o p = true) : (o = .sub ∧ p = .Sub) ∨ (o = .fdiv ∧ p = .FloorDiv) ∨ (o = .mod ∧ p = .Mod) ∨ (o = .pow ∧ p = .Pow) := by
  cases o <;> cases p <;> first | exact absurd h (by decide) | simp
theorem WTg.mono {S : Sta} {e : Expr} {L : List Nat} {ρ : Rho} {d : PyData} {K K' : Rho → Prop} (h : WTg S e L ρ d K) (k : ∀ ρ', K ρ' → K' ρ') : WTg S e L ρ d K' := fun X B st σ τ G H E v dd Qσ kq => h X B st σ τ G H E v dd Qσ fun ρ' σ' q => kq ρ' σ' (k _ q)
theorem tg_each {t : Expr} (h : isTg t = true) (ts : List Expr) : ∀ env, assignEach (t :: ts) env = (false, assign t env) :: assignEach ts env := by
  intro env
  cases t <;> first | rfl | cases h
theorem wpTg_of {C : Ctx} {S : Sta} (l : Lk C S) : ∀ {tg : CTg} {e : Expr}, okTg C tg e = true → (∀ j ∈ tg.slots, j ∉ S.fxs) → ∀ {ρ : Rho} {d : PyData} {Kk : Rho → Prop}, wpTg tg d ρ Kk → WTg S e tg.slots ρ d Kk
  | .name i, e, h, hF, ρ, d, Kk, q => by
    unfold okTg at h
    split at h
    · rename_i e2; cases e2; exact wtg_name _ (own1_of l h (hF _ (by simp [CTg.slots]))) q
    all_goals first | (rename_i e2; cases e2; done) | cases h
  | .pair i j, e, h, hF, ρ, d, Kk, q => by
    unfold okTg at h
    split at h
    · rename_i e2; cases e2
    · rename_i e2; cases e2
      rw [Bool.and_eq_true] at h
      obtain ⟨d1, d2, hd, q⟩ := q
      exact wtg_pair _ _ hd (own1_of l h.1 (hF _ (by simp [CTg.slots]))) (own1_of l h.2 (hF _ (by simp [CTg.slots]))) q
    all_goals first | (rename_i e2; cases e2; done) | cases h
  | .triple i j k, e, h, hF, ρ, d, Kk, q => by
    unfold okTg at h
    split at h
    · rename_i e2; cases e2
    · rename_i e2; cases e2
    · rename_i e2; cases e2
      rw [Bool.and_eq_true, Bool.and_eq_true] at h
      obtain ⟨d1, d2, d3, hd, q⟩ := q
      exact wtg_triple _ _ _ hd (own1_of l h.1.1 (hF _ (by simp [CTg.slots]))) (own1_of l h.1.2 (hF _ (by simp [CTg.slots]))) (own1_of l h.2 (hF _ (by simp [CTg.slots]))) q
    all_goals first | (rename_i e2; cases e2; done) | cases h
  | .two a b, e, h, hF, ρ, d, Kk, q => by
    unfold okTg at h
    split at h
    · rename_i e2; cases e2
    · rename_i e2; cases e2
    · rename_i e2; cases e2
    · rename_i e2; cases e2
      simp only [Bool.and_eq_true] at h
      obtain ⟨⟨⟨h1, h2⟩, h3⟩, h4⟩ := h
      obtain ⟨d1, d2, hd, q⟩ := q
      exact wtg_two hd ((wpTg_of l h1 (fun j hj => hF j (List.mem_append_left _ hj)) q).mono fun ρ1 q => wpTg_of l h2 (fun j hj => hF j (List.mem_append_right _ hj)) q) (fun env => by rw [tg_each h3, tg_each h4]; rfl) (fun env => by rw [tg_each h4]; rfl)
    · cases h
theorem WA.mono {S : Sta} {es : List Expr} {ρ : Rho} {Q Q' : List Arg → Rho → Prop} (h : WA S es ρ Q) (k : ∀ as ρ', Q as ρ' → Q' as ρ') : WA S es ρ Q' := fun X B st σ τ G H E => by
  obtain ⟨t, pt, ht⟩ := h X B st σ τ G H E
  exact ⟨t, pt, fun QV kq => ht QV fun as ρ' vs G' H' q => kq as ρ' vs G' H' (k _ _ q)⟩
theorem WL.mono {S : Sta} {es : List Expr} {ρ : Rho} {Q Q' : List T → Rho → Prop} (h : WL S es ρ Q) (k : ∀ as ρ', Q as ρ' → Q' as ρ') : WL S es ρ Q' := fun X B st σ τ G H E => by
  obtain ⟨t, pt, ht⟩ := h X B st σ τ G H E
  exact ⟨t, pt, fun QV kq => ht QV fun as ρ' vs G' H' q => kq as ρ' vs G' H' (k _ _ q)⟩
abbrev Off (S : Sta) (l : List Nat) : Prop := ∀ j ∈ l, j ∉ S.fxs
theorem Off.l {S : Sta} {a b : List Nat} (h : Off S (a ++ b)) : Off S a := fun j hj => h j (List.mem_append_left _ hj)
theorem Off.r {S : Sta} {a b : List Nat} (h : Off S (a ++ b)) : Off S b := fun j hj => h j (List.mem_append_right _ hj)
theorem WTs.mono {S : Sta} {ifs : List Expr} {ρ : Rho} {Q Q' : Bool → Rho → Prop} (h : WTs S ifs ρ Q) (k : ∀ b ρ', Q b ρ' → Q' b ρ') : WTs S ifs ρ Q' := by
  unfold WTs at h ⊢
  split at h
  · exact k _ _ h
  · exact h.mono k
  · exact h
theorem LcGo_of {S : Sta} {tg : Expr} {L vs : List Nat} {ifs : List Expr} {elt : Expr} {Q : List T → Rho → Prop} {wtg : PyData → Rho → (Rho → Prop) → Prop} {wt : Rho → (Bool → Rho → Prop) → Prop} {we : Rho → (T → Rho → Prop) → Prop}
    (h1 : ∀ d ρ Kk, wtg d ρ Kk → WTg S tg L ρ d Kk) (h2 : ∀ ρ Kk, wt ρ Kk → WTs S ifs ρ Kk) (h3 : ∀ ρ Kk, we ρ Kk → WV S elt ρ Kk) : ∀ (ds : List PyData) (acc : List T) (ρ : Rho), goLc wtg wt we vs Q ds acc ρ → LcGo S tg L vs ifs elt Q ds acc ρ
  | [], acc, ρ, h => h
  | d :: ds, acc, ρ, h => by
    refine (h1 _ _ _ h).mono fun ρ1 q => (h2 _ _ q).mono fun k ρ2 q => ⟨fun hk => (h3 _ _ (q.1 hk)).mono fun t ρ3 q => LcGo_of h1 h2 h3 ds _ _ q, fun hk => LcGo_of h1 h2 h3 ds _ _ (q.2 hk)⟩
theorem rdVar_of {S : Sta} {i : Nat} {x : Str} {p : Pos} {ρ : Rho} {Q : T → Rho → Prop} (hN : S.N[i]? = some x) (hv : Vis S.sc x) (hn : (x == ("__debug__" : Str)) = false ∧ (x == ("__classdict__" : Str)) = false) (h : rdVar i ρ Q) : WV S (.Name x p) ρ Q := by
  unfold rdVar at h
  split at h
  · exact wv_var i hN hv (by assumption) h hn.1 hn.2
  · split at h
    · exact wv_freeze i hN hv (by assumption) (by assumption) h hn.1 hn.2
    · exact wv_move i hN hv (by assumption) h hn.1 hn.2
  · exact h.elim
theorem mvVar_of {S : Sta} {i : Nat} {x : Str} {p : Pos} {ρ : Rho} {Q : T → Rho → Prop} (hN : S.N[i]? = some x) (hv : Vis S.sc x) (hn : (x == ("__debug__" : Str)) = false ∧ (x == ("__classdict__" : Str)) = false) (h : mvVar i ρ Q) : WV S (.Name x p) ρ Q := by
  unfold mvVar at h
  split at h
  · exact wv_move i hN hv (by assumption) h hn.1 hn.2
  · exact h.elim
theorem wv_frz {S : Sta} {e : Expr} {ρ : Rho} {Q : T → Rho → Prop} (h : WV S e ρ fun t ρ1 => ∃ d, toD t = some d ∧ Q (.sh d) ρ1) : WV S e ρ Q := by
  intro X B st σ τ G H E QV kq
  refine h X B st σ τ G H E QV fun t ρ' v G' H' ⟨d, hd, q⟩ E' => ?_
  obtain ⟨G2, _, E2⟩ := E'.freeze hd
  exact kq _ _ _ _ _ q E2
theorem bk1_boot : ∀ k : Bk1, bootBuiltins (k.id : Str) = some (.builtin k.id)
  | .len => PySem.boot_len | .sum => boot_sum | .max => boot_max | .min => boot_min | .all => boot_all | .any => boot_any
theorem bk2_boot : ∀ k : Bk2, bootBuiltins (k.id : Str) = some (.builtin k.id)
  | .max2 => boot_max | .min2 => boot_min
theorem bk1_mem : ∀ k : Bk1, (k.id : Str) ∈ bltN := by intro k; cases k <;> simp [Bk1.id]
theorem bk2_mem : ∀ k : Bk2, (k.id : Str) ∈ bltN := by intro k; cases k <;> simp [Bk2.id]
theorem bk1_n : ∀ k : Bk1, (k.id : Str) ≠ "__name__" := by intro k; cases k <;> decide
theorem bk2_n : ∀ k : Bk2, (k.id : Str) ≠ "__name__" := by intro k; cases k <;> decide
theorem okL_stars {C : Ctx} : ∀ {es : CL} {n : Nat} {xs : List Expr}, okL n C es xs = true → ∀ e ∈ xs, notStar e = true
  | .nil, n, xs, h, e, he => by
    obtain ⟨n, rfl⟩ := okL_pos h
    unfold okL at h
    rw [List.isEmpty_iff.mp h] at he
    cases he
  | .cons c es, n, xs, h, e, he => by
    obtain ⟨n, rfl⟩ := okL_pos h
    unfold okL at h
    split at h
    · rw [Bool.and_eq_true, Bool.and_eq_true] at h
      rcases List.mem_cons.mp he with rfl | he
      · exact h.1.2
      · exact okL_stars h.2 e he
    · cases h
theorem plainC_of {n : Nat} {C : Ctx} {c : CE} {e : Expr} (hp : c.plainC = true) (h : okE n C c e = true) : plain e = true := by
  unfold CE.plainC at hp
  split at hp <;> first
    | exact absurd hp (by decide)
    | (obtain ⟨n, rfl⟩ := okE_pos h; unfold okE at h; exact Nul.plOk _ hp h)
    | (obtain ⟨n, rfl⟩ := okE_pos h; unfold okE at h; split at h <;> first | rfl | cases h | exact Un.plOk _ hp (by assumption) | exact Nar.plOk _ hp (by assumption))
mutual
theorem sndV : ∀ (c : CE) (n : Nat) (Γ : Gam) (C : Ctx) (S : Sta) (e : Expr) (ρ : Rho) (Q : T → Rho → Prop), Lk C S → Γ.Ok S → Off S c.owns → okE n C c e = true → wpV Γ c ρ Q → WV S e ρ Q
  | .int i, n, Γ, C, S, e, ρ, Q, l, g, o, h, q => by
    obtain ⟨n, rfl⟩ := okE_pos h
    unfold okE at h; split at h
    · rw [eq_of_beq h] at q; unfold wpV at q; exact wv_int q
    · cases h
  | .str i, n, Γ, C, S, e, ρ, Q, l, g, o, h, q => by
    obtain ⟨n, rfl⟩ := okE_pos h
    unfold okE at h; split at h
    · rw [eq_of_beq h] at q; unfold wpV at q; exact wv_str q
    · cases h
  | .bl i, n, Γ, C, S, e, ρ, Q, l, g, o, h, q => by
    obtain ⟨n, rfl⟩ := okE_pos h
    unfold okE at h; split at h
    · rw [eq_of_beq h] at q; unfold wpV at q; exact wv_bl q
    · cases h
  | .non, n, Γ, C, S, e, ρ, Q, l, g, o, h, q => by
    obtain ⟨n, rfl⟩ := okE_pos h
    unfold okE at h; split at h
    · unfold wpV at q; exact wv_none q
    · cases h
  | .var i, n, Γ, C, S, e, ρ, Q, l, g, o, h, q => by
    obtain ⟨n, rfl⟩ := okE_pos h
    unfold okE at h; split at h
    · rw [Bool.and_eq_true, Bool.and_eq_true] at h
      unfold wpV at q
      exact rdVar_of (by rw [← l.N]; exact eq_of_beq h.1.1) (vis_of l h.1.2) (name_ok h.2) q
    · cases h
  | .glob y, n, Γ, C, S, e, ρ, Q, l, g, o, h, q => by
    obtain ⟨n, rfl⟩ := okE_pos h
    unfold okE at h; split at h
    · rw [Bool.and_eq_true] at h
      unfold wpV at q
      unfold ctP at q
      split at q
      · rename_i i hi
        obtain ⟨t, ht⟩ := g.ct _ _ hi
        rw [eq_of_beq h.1] at *
        exact wv_globI ht q (isG_of l h.2).1 (isG_of l h.2).2
      · exact q.elim
    · cases h
  | .plus a b, n, Γ, C, S, e, ρ, Q, l, g, o, h, q => by
    obtain ⟨n, rfl⟩ := okE_pos h
    unfold okE at h; split at h
    · rw [Bool.and_eq_true] at h
      unfold wpV at q
      exact wv_plus ((sndO a _ Γ C S _ ρ _ l g o.l h.1 q).mono fun oa ρ1 q => sndO b _ Γ C S _ ρ1 _ l g o.r h.2 q)
    · cases h
  | .times a b, n, Γ, C, S, e, ρ, Q, l, g, o, h, q => by
    obtain ⟨n, rfl⟩ := okE_pos h
    unfold okE at h; split at h
    · rw [Bool.and_eq_true] at h
      unfold wpV at q
      exact wv_times ((sndO a _ Γ C S _ ρ _ l g o.l h.1 q).mono fun oa ρ1 q => sndO b _ Γ C S _ ρ1 _ l g o.r h.2 q)
    · cases h
  | .op p a b, n, Γ, C, S, e, ρ, Q, l, g, o, h, q => by
    obtain ⟨n, rfl⟩ := okE_pos h
    unfold okE at h; split at h
    · rw [Bool.and_eq_true, Bool.and_eq_true] at h
      unfold wpV at q
      have k := (sndO a _ Γ C S _ ρ _ l g o.l h.1.2 q).mono fun oa ρ1 q => sndO b _ Γ C S _ ρ1 _ l g o.r h.2 q
      rcases opIs_of h.1.1 with ⟨rfl, rfl⟩ | ⟨rfl, rfl⟩ | ⟨rfl, rfl⟩ | ⟨rfl, rfl⟩
      · exact wv_minus k
      · exact wv_fdiv k
      · exact wv_mod k
      · exact wv_pow k
    · cases h
  | .neg a, n, Γ, C, S, e, ρ, Q, l, g, o, h, q => by
    obtain ⟨n, rfl⟩ := okE_pos h
    unfold okE at h; split at h
    · unfold wpV at q
      exact wv_neg (sndO a _ Γ C S _ ρ _ l g o h q)
    · cases h
  | .cmp p a b, n, Γ, C, S, e, ρ, Q, l, g, o, h, q => by
    obtain ⟨n, rfl⟩ := okE_pos h
    unfold okE at h; split at h
    · simp only [Bool.and_eq_true] at h
      unfold wpV at q
      have eo := eq_of_beq h.1.1.1
      subst eo
      exact wv_cmp ((sndO a _ Γ C S _ ρ _ l g o.l h.1.1.2 q).mono fun oa ρ1 q => sndO b _ Γ C S _ ρ1 _ l g o.r h.1.2 q) (behind_of h.2)
    · cases h
  | .chain p p' a b c, n, Γ, C, S, e, ρ, Q, l, g, o, h, q => by
    obtain ⟨n, rfl⟩ := okE_pos h
    unfold okE at h; split at h
    · simp only [Bool.and_eq_true] at h
      unfold wpV at q
      obtain ⟨⟨⟨⟨⟨h1, h2⟩, h3⟩, h4⟩, h5⟩, h6⟩ := h
      have eo := eq_of_beq h1
      have eo' := eq_of_beq h2
      subst eo
      subst eo'
      refine wv_chain ((sndO a _ Γ C S _ ρ _ l g o.l h3 q).mono fun oa ρ1 q => (sndO b _ Γ C S _ ρ1 _ l g o.r.l h4 q).mono fun ob ρ2 q => ?_) (by show behindInMarks _ _ = false; exact behind_of h6)
      obtain ⟨da, db, e1, e2, q⟩ := q
      exact ⟨da, db, e1, e2, CmpX.mono q fun k q => ⟨fun hk => sndO c _ Γ C S _ ρ2 _ l g o.r.r h5 (q.1 hk), q.2⟩⟩
    · cases h
  | .chain3 p p' p'' a b c d, n, Γ, C, S, e, ρ, Q, l, g, o, h, q => by
    obtain ⟨n, rfl⟩ := okE_pos h
    unfold okE at h; split at h
    · simp only [Bool.and_eq_true] at h
      unfold wpV at q
      obtain ⟨⟨⟨⟨⟨⟨⟨h1, h2⟩, h2'⟩, h3⟩, h4⟩, h5⟩, h5'⟩, h6⟩ := h
      have eo := eq_of_beq h1
      have eo' := eq_of_beq h2
      have eo'' := eq_of_beq h2'
      subst eo
      subst eo'
      subst eo''
      refine wv_chain3 ((sndO a _ Γ C S _ ρ _ l g o.l h3 q).mono fun oa ρ1 q => (sndO b _ Γ C S _ ρ1 _ l g o.r.l h4 q).mono fun ob ρ2 q => ?_) (by show behindInMarks _ _ = false; exact behind_of h6)
      obtain ⟨da, db, e1, e2, q⟩ := q
      refine ⟨da, db, e1, e2, CmpX.mono q fun k q => ⟨fun hk => (sndO c _ Γ C S _ ρ2 _ l g o.r.r.l h5 (q.1 hk)).mono fun oc ρ3 q => ?_, q.2⟩⟩
      obtain ⟨da, db, e1, e2, q⟩ := q
      exact ⟨da, db, e1, e2, CmpX.mono q fun k q => ⟨fun hk => sndO d _ Γ C S _ ρ3 _ l g o.r.r.r h5' (q.1 hk), q.2⟩⟩
    · cases h
  | .not a, n, Γ, C, S, e, ρ, Q, l, g, o, h, q => by
    obtain ⟨n, rfl⟩ := okE_pos h
    unfold okE at h; split at h
    · unfold wpV at q
      exact wv_not (sndV a _ Γ C S _ ρ _ l g o h q)
    · cases h
  | .and a b, n, Γ, C, S, e, ρ, Q, l, g, o, h, q => by
    obtain ⟨n, rfl⟩ := okE_pos h
    unfold okE at h; split at h
    · rename_i x xs pos
      rw [Bool.and_eq_true] at h
      unfold wpV at q
      cases xs with
      | nil => obtain ⟨_, h⟩ := h; obtain ⟨n, rfl⟩ := okAnd_pos h; unfold okAnd at h; cases h
      | cons y ys =>
        refine wv_and ((sndV a _ Γ C S _ ρ _ l g o.l h.1 q).mono fun t ρ1 q => ?_)
        obtain ⟨k, e1, q1, q2⟩ := q
        exact ⟨k, e1, fun hk => sndAnd b _ Γ C S (y :: ys) pos ρ1 Q l g o.r h.2 (q1 hk), q2⟩
    · cases h
  | .or a b, n, Γ, C, S, e, ρ, Q, l, g, o, h, q => by
    obtain ⟨n, rfl⟩ := okE_pos h
    unfold okE at h; split at h
    · rename_i x xs pos
      rw [Bool.and_eq_true] at h
      unfold wpV at q
      cases xs with
      | nil => obtain ⟨_, h⟩ := h; obtain ⟨n, rfl⟩ := okOr_pos h; unfold okOr at h; cases h
      | cons y ys =>
        refine wv_or ((sndV a _ Γ C S _ ρ _ l g o.l h.1 q).mono fun t ρ1 q => ?_)
        obtain ⟨k, e1, q1, q2⟩ := q
        exact ⟨k, e1, fun hk => sndOr b _ Γ C S (y :: ys) pos ρ1 Q l g o.r h.2 (q1 hk), q2⟩
    · cases h
  | .ife c a b, n, Γ, C, S, e, ρ, Q, l, g, o, h, q => by
    obtain ⟨n, rfl⟩ := okE_pos h
    unfold okE at h; split at h
    · rw [Bool.and_eq_true, Bool.and_eq_true] at h
      unfold wpV at q
      exact wv_ifExp ((sndT c _ Γ C S _ ρ _ l g o.l h.1.1 q).mono fun k ρ1 q => ⟨fun hk => sndV a _ Γ C S _ ρ1 _ l g o.r.l h.1.2 (q.1 hk), fun hk => sndV b _ Γ C S _ ρ1 _ l g o.r.r h.2 (q.2 hk)⟩)
    · cases h
  | .ix a b, n, Γ, C, S, e, ρ, Q, l, g, o, h, q => by
    obtain ⟨n, rfl⟩ := okE_pos h
    unfold okE at h; split at h
    · rw [Bool.and_eq_true, Bool.and_eq_true] at h
      unfold wpV at q
      exact wv_ix ((sndO a _ Γ C S _ ρ _ l g o.l h.1.1 q).mono fun oa ρ1 q => sndO b _ Γ C S _ ρ1 _ l g o.r h.1.2 q) (ix_of h.2)
    · cases h
  | .list es, n, Γ, C, S, e, ρ, Q, l, g, o, h, q => by
    obtain ⟨n, rfl⟩ := okE_pos h
    unfold okE at h; split at h
    · unfold wpV at q
      exact wv_list (sndL es _ Γ C S _ ρ _ l g o h q)
    · cases h
  | .tup es, n, Γ, C, S, e, ρ, Q, l, g, o, h, q => by
    obtain ⟨n, rfl⟩ := okE_pos h
    unfold okE at h; split at h
    · unfold wpV at q
      exact wv_tuple (sndL es _ Γ C S _ ρ _ l g o h q)
    · cases h
  | .call f es, n, Γ, C, S, e, ρ, Q, l, g, o, h, q => by
    obtain ⟨n, rfl⟩ := okE_pos h
    unfold okE at h; split at h
    · rename_i x p y ys pos
      rw [Bool.and_eq_true, Bool.and_eq_true] at h
      obtain ⟨⟨h1, h2⟩, h3⟩ := h
      have ef := eq_of_beq h1
      subst ef
      unfold wpV at q
      unfold callP at q
      split at q
      · rename_i W hW
        obtain ⟨k, hk, F⟩ := g.fn _ _ hW
        have st := okL_stars h3
        refine wv_call F hk ((sndA es _ Γ C S _ ρ _ l g o h3 q).mono fun as ρ1 q => ?_) (isG_of l h2).1 (isG_of l h2).2 (fun env => star_of (st y List.mem_cons_self) ys env) fun env => not_any (fun e he => st e (List.mem_cons_of_mem _ he)) env
        rw [g.E]
        exact callW_of q
      · exact q.elim
    · cases h
  | .b1 k a, n, Γ, C, S, e, ρ, Q, l, g, o, h, q => by
    obtain ⟨n, rfl⟩ := okE_pos h
    unfold okE at h; split at h
    · rename_i x p y pos
      simp only [Bool.and_eq_true] at h
      obtain ⟨⟨⟨h1, h2⟩, h3⟩, h4⟩ := h
      have ef := eq_of_beq h1
      subst ef
      unfold wpV at q
      exact wv_b1 (b1_ok S.tee k) (sndO a _ Γ C S _ ρ _ l g o h3 q) (bk1_boot k) (g.blt _ (bk1_mem k)) (isG_of l h2).1 (bk1_n k) (isG_of l h2).2 ⟨fun env => star_of h4 [] env, trivial⟩
    · cases h
  | .b2 k a b, n, Γ, C, S, e, ρ, Q, l, g, o, h, q => by
    obtain ⟨n, rfl⟩ := okE_pos h
    unfold okE at h; split at h
    · rename_i x p y z pos
      simp only [Bool.and_eq_true] at h
      obtain ⟨⟨⟨⟨⟨h1, h2⟩, h3⟩, h4⟩, h5⟩, h6⟩ := h
      have ef := eq_of_beq h1
      subst ef
      unfold wpV at q
      exact wv_b2 (b2_ok S.tee k) ((sndO a _ Γ C S _ ρ _ l g o.l h3 q).mono fun oa ρ1 q => sndO b _ Γ C S _ ρ1 _ l g o.r h4 q) (bk2_boot k) (g.blt _ (bk2_mem k)) (isG_of l h2).1 (bk2_n k) (isG_of l h2).2 ⟨fun env => star_of h5 [z] env, fun env => star_of h6 [] env, trivial⟩ fun env => not_any (fun e he => by rw [List.mem_singleton.mp he]; exact h6) env
    · cases h
  | .toInt a, n, Γ, C, S, e, ρ, Q, l, g, o, h, q => by
    obtain ⟨n, rfl⟩ := okE_pos h
    unfold okE at h; split at h
    · rename_i x p y pos
      simp only [Bool.and_eq_true] at h
      obtain ⟨⟨⟨h1, h2⟩, h3⟩, h4⟩ := h
      have ef := eq_of_beq h1
      subst ef
      unfold wpV at q
      exact wv_t1 (id := "int") ok_IntD (sndO a _ Γ C S _ ρ _ l g o h3 q) PyProof.Rows.boot_int (g.blt _ (by simp)) (isG_of l h2).1 (by decide) (isG_of l h2).2 ⟨fun env => star_of h4 [] env, trivial⟩
    · cases h
  | .un U a, n, Γ, C, S, e, ρ, Q, l, g, o, h, q => by
    obtain ⟨n, rfl⟩ := okE_pos h
    unfold okE at h; split at h
    · unfold wpV at q
      exact U.snd l g.blt (by assumption) (sndO a _ Γ C S _ ρ _ l g o h q)
    · cases h
  | .nul U, n, Γ, C, S, e, ρ, Q, l, g, o, h, q => by
    obtain ⟨n, rfl⟩ := okE_pos h
    unfold okE at h
    unfold wpV at q
    exact U.snd l g h q
  | .tri U a b c, n, Γ, C, S, e, ρ, Q, l, g, o, h, q => by
    obtain ⟨n, rfl⟩ := okE_pos h
    unfold okE at h; split at h
    · rw [Bool.and_eq_true, Bool.and_eq_true] at h
      unfold wpV at q
      exact U.snd l g (by assumption) ((sndV a _ Γ C S _ ρ _ l g o.l h.1.1 q).mono fun t1 ρ1 q => (sndV b _ Γ C S _ ρ1 _ l g o.r.l h.1.2 q).mono fun t2 ρ2 q => ⟨q.1, sndV c _ Γ C S _ ρ2 _ l g o.r.r h.2 q.2⟩)
    · cases h
  | .nar U es, n, Γ, C, S, e, ρ, Q, l, g, o, h, q => by
    obtain ⟨n, rfl⟩ := okE_pos h
    unfold okE at h; split at h
    · unfold wpV at q
      exact U.snd l g (by assumption) (sndL es _ Γ C S _ ρ _ l g o h q)
    · cases h
  | .fz i, n, Γ, C, S, e, ρ, Q, l, g, o, h, q => by
    obtain ⟨n, rfl⟩ := okE_pos h
    unfold okE at h; split at h
    · rw [Bool.and_eq_true, Bool.and_eq_true] at h
      unfold wpV at q
      exact rdVar_of (by rw [← l.N]; exact eq_of_beq h.1.1) (vis_of l h.1.2) (name_ok h.2) q
    · cases h
  | .mv i, n, Γ, C, S, e, ρ, Q, l, g, o, h, q => by
    obtain ⟨n, rfl⟩ := okE_pos h
    unfold okE at h; split at h
    · rw [Bool.and_eq_true, Bool.and_eq_true] at h
      unfold wpV at q
      exact mvVar_of (by rw [← l.N]; exact eq_of_beq h.1.1) (vis_of l h.1.2) (name_ok h.2) q
    · cases h
  | .bin U a b, n, Γ, C, S, e, ρ, Q, l, g, o, h, q => by
    obtain ⟨n, rfl⟩ := okE_pos h
    unfold okE at h; split at h
    · rw [Bool.and_eq_true] at h
      unfold wpV at q
      exact U.snd l g.blt (by assumption) ((sndO a _ Γ C S _ ρ _ l g o.l h.1 q).mono fun oa ρ1 q => ⟨q.1, sndO b _ Γ C S _ ρ1 _ l g o.r h.2 q.2⟩)
    · cases h
  | .sl a b c, n, Γ, C, S, e, ρ, Q, l, g, o, h, q => by
    obtain ⟨n, rfl⟩ := okE_pos h
    unfold okE at h; split at h
    · rw [Bool.and_eq_true, Bool.and_eq_true] at h
      unfold wpV at q
      refine wv_slice ((sndO a _ Γ C S _ ρ _ l g o.l h.1.1 q).mono fun oa ρ1 q => wpa_some ((sndO b _ Γ C S _ ρ1 _ l g o.r.l h.1.2 q).mono fun ob ρ2 q => ?_))
      obtain ⟨i, e1, q⟩ := q
      exact ⟨i, e1, wpa_some ((sndO c _ Γ C S _ ρ2 _ l g o.r.r h.2 q).mono fun oc ρ3 q => q)⟩
    · cases h
  | .dctC kvs, n, Γ, C, S, e, ρ, Q, l, g, o, h, q => by
    obtain ⟨n, rfl⟩ := okE_pos h
    unfold okE at h; split at h
    · simp only [Bool.and_eq_true] at h
      unfold wpV at q
      exact wv_dctC (eq_of_beq h.1.1.1) (of_decide_eq_true h.1.1.2) (fun z => by rw [z] at h; simp at h) (of_decide_eq_true h.2) q
    · cases h
  | .pop i, n, Γ, C, S, e, ρ, Q, l, g, o, h, q => by
    obtain ⟨n, rfl⟩ := okE_pos h
    unfold okE at h; split at h
    · simp only [Bool.and_eq_true] at h
      obtain ⟨⟨⟨⟨h1, h2⟩, h3⟩, h4⟩, h5⟩ := h
      have em := eq_of_beq h1
      subst em
      unfold wpV at q
      obtain ⟨ts, t, h0, q⟩ := q
      exact wv_pop i h0 q (by rw [← l.N]; exact eq_of_beq h2) (vis_of l h3) (name_ok h4).1 (name_ok h4).2 (fun env => rfl) h5
    · cases h
  | .frz a, n, Γ, C, S, e, ρ, Q, l, g, o, h, q => by
    obtain ⟨n, rfl⟩ := okE_pos h
    unfold okE at h
    unfold wpV at q
    exact wv_frz (sndV a _ Γ C S e ρ _ l g o h q)
  | .lend a, n, Γ, C, S, e, ρ, Q, l, g, o, h, q => by
    obtain ⟨n, rfl⟩ := okE_pos h
    unfold okE at h
    unfold wpV at q
    exact wv_lend (sndV a _ (Γ.lend ρ) C (S.lend ρ) e (shR ρ) _ ⟨l.N, l.sc, l.fn⟩ (g.lend ρ) (fun j hj hz => (List.mem_append.mp hz).elim (q.1 j hj) (o j hj)) h q.2)
  | .lc a tg it own, n, Γ, C, S, e, ρ, Q, l, g, o, h, q => by
    obtain ⟨n, rfl⟩ := okE_pos h
    unfold okE at h; split at h
    · rename_i x t i scope pos
      simp only [Bool.and_eq_true] at h
      obtain ⟨⟨⟨⟨⟨h1, h2⟩, h3⟩, h4⟩, h5⟩, h7⟩ := h
      unfold wpV at q
      have o : Off S (own.map (·.2) ++ (it.owns ++ a.owns)) := o
      have hL : ∀ j ∈ tg.slots, j ∈ own.map (·.2) := fun j hj => List.contains_iff_mem.mp (List.all_eq_true.mp h5 j hj)
      exact wv_lc own tg.slots ((sndI it _ Γ C S t _ ρ _ l g o.r.l h1 q).mono fun ds ρ1 q => ⟨q.1, LcGo_of (fun d ρ Kk k => wpTg_of (l.blk scope) h2 (fun j hj => o.l j (hL j hj)) k) (fun ρ Kk k => k) (fun ρ Kk k => sndV a _ Γ.calm (C.inBlk scope) (S.blk scope) x ρ Kk (l.blk scope) (g.blk scope) o.r.r h3 k) ds [] _ q.2⟩)
        (by rw [← l.N, ← l.sc]; exact h4) hL o.l (Nat.zero_le _) (folded_of h7)
    · cases h
  | .lcIf a tg it c own, n, Γ, C, S, e, ρ, Q, l, g, o, h, q => by
    obtain ⟨n, rfl⟩ := okE_pos h
    unfold okE at h; split at h
    · rename_i x t i y scope pos
      simp only [Bool.and_eq_true] at h
      obtain ⟨⟨⟨⟨⟨⟨h1, h2⟩, h3⟩, h8⟩, h4⟩, h5⟩, h7⟩ := h
      unfold wpV at q
      have o : Off S (own.map (·.2) ++ (it.owns ++ (a.owns ++ c.owns))) := o
      have hL : ∀ j ∈ tg.slots, j ∈ own.map (·.2) := fun j hj => List.contains_iff_mem.mp (List.all_eq_true.mp h5 j hj)
      exact wv_lc own tg.slots ((sndI it _ Γ C S t _ ρ _ l g o.r.l h1 q).mono fun ds ρ1 q => ⟨q.1, LcGo_of (ifs := [y]) (fun d ρ Kk k => wpTg_of (l.blk scope) h2 (fun j hj => o.l j (hL j hj)) k) (fun ρ Kk k => (sndT c _ Γ.calm (C.inBlk scope) (S.blk scope) y ρ Kk (l.blk scope) (g.blk scope) o.r.r.r h8 k : WT (S.blk scope) y ρ Kk)) (fun ρ Kk k => sndV a _ Γ.calm (C.inBlk scope) (S.blk scope) x ρ Kk (l.blk scope) (g.blk scope) o.r.r.l h3 k) ds [] _ q.2⟩)
        (by rw [← l.N, ← l.sc]; exact h4) hL o.l (Nat.le_refl _) (folded_of h7)
    · cases h
termination_by c => (sizeOf c, 0)
theorem sndO : ∀ (c : CE) (n : Nat) (Γ : Gam) (C : Ctx) (S : Sta) (e : Expr) (ρ : Rho) (Q : Opd → Rho → Prop), Lk C S → Γ.Ok S → Off S c.owns → okE n C c e = true → wpO Γ c ρ Q → WO S e ρ Q := by
  intro c n Γ C S e ρ Q l g o h q
  unfold wpO at q
  split at q
  · obtain ⟨n, rfl⟩ := okE_pos h
    unfold okE at h; split at h
    · rw [Bool.and_eq_true, Bool.and_eq_true] at h
      obtain ⟨t, ht, q⟩ := q
      exact wo_var _ (by rw [← l.N]; exact eq_of_beq h.1.1) (vis_of l h.1.2) ht q (name_ok h.2).1 (name_ok h.2).2
    · cases h
  · refine WO.of ?_
    obtain ⟨n, rfl⟩ := okE_pos h
    unfold okE at h; split at h
    · rw [eq_of_beq h] at q; exact wv_int q
    · cases h
  · exact WO.of (sndV c _ Γ C S e ρ _ l g o h q)
termination_by c => (sizeOf c, 1)
theorem sndT : ∀ (c : CE) (n : Nat) (Γ : Gam) (C : Ctx) (S : Sta) (e : Expr) (ρ : Rho) (Q : Bool → Rho → Prop), Lk C S → Γ.Ok S → Off S c.owns → okE n C c e = true → wpT Γ c ρ Q → WT S e ρ Q := by
  intro c n Γ C S e ρ Q l g o h q
  unfold wpT at q
  split at q
  · rename_i p a b
    obtain ⟨n, rfl⟩ := okE_pos h
    unfold okE at h; split at h
    · simp only [Bool.and_eq_true] at h
      have eo := eq_of_beq h.1.1.1
      subst eo
      exact wt_cmp ((sndO a _ Γ C S _ ρ _ l g o.l h.1.1.2 q).mono fun oa ρ1 q => sndO b _ Γ C S _ ρ1 _ l g o.r h.1.2 q) (behind_of h.2)
    · cases h
  · rename_i p p' a b c
    obtain ⟨n, rfl⟩ := okE_pos h
    unfold okE at h; split at h
    · simp only [Bool.and_eq_true] at h
      obtain ⟨⟨⟨⟨⟨h1, h2⟩, h3⟩, h4⟩, h5⟩, h6⟩ := h
      have eo := eq_of_beq h1
      have eo' := eq_of_beq h2
      subst eo
      subst eo'
      refine wt_chain ((sndO a _ Γ C S _ ρ _ l g o.l h3 q).mono fun oa ρ1 q => (sndO b _ Γ C S _ ρ1 _ l g o.r.l h4 q).mono fun ob ρ2 q => ?_) (by show behindInMarks _ _ = false; exact behind_of h6)
      obtain ⟨da, db, e1, e2, q⟩ := q
      exact ⟨da, db, e1, e2, CmpX.mono q fun k q => ⟨fun hk => sndO c _ Γ C S _ ρ2 _ l g o.r.r h5 (q.1 hk), q.2⟩⟩
    · cases h
  · rename_i p p' p'' a b c d
    obtain ⟨n, rfl⟩ := okE_pos h
    unfold okE at h; split at h
    · simp only [Bool.and_eq_true] at h
      obtain ⟨⟨⟨⟨⟨⟨⟨h1, h2⟩, h2'⟩, h3⟩, h4⟩, h5⟩, h5'⟩, h6⟩ := h
      have eo := eq_of_beq h1
      have eo' := eq_of_beq h2
      have eo'' := eq_of_beq h2'
      subst eo
      subst eo'
      subst eo''
      refine wt_chain3 ((sndO a _ Γ C S _ ρ _ l g o.l h3 q).mono fun oa ρ1 q => (sndO b _ Γ C S _ ρ1 _ l g o.r.l h4 q).mono fun ob ρ2 q => ?_) (by show behindInMarks _ _ = false; exact behind_of h6)
      obtain ⟨da, db, e1, e2, q⟩ := q
      refine ⟨da, db, e1, e2, CmpX.mono q fun k q => ⟨fun hk => (sndO c _ Γ C S _ ρ2 _ l g o.r.r.l h5 (q.1 hk)).mono fun oc ρ3 q => ?_, q.2⟩⟩
      obtain ⟨da, db, e1, e2, q⟩ := q
      exact ⟨da, db, e1, e2, CmpX.mono q fun k q => ⟨fun hk => sndO d _ Γ C S _ ρ3 _ l g o.r.r.r h5' (q.1 hk), q.2⟩⟩
    · cases h
  · rename_i a
    obtain ⟨n, rfl⟩ := okE_pos h
    unfold okE at h; split at h
    · exact wt_not (sndT a _ Γ C S _ ρ _ l g o h q)
    · cases h
  · rename_i a b
    obtain ⟨n, rfl⟩ := okE_pos h
    unfold okE at h; split at h
    · rename_i x xs pos
      rw [Bool.and_eq_true] at h
      cases xs with
      | nil => obtain ⟨_, h⟩ := h; obtain ⟨n, rfl⟩ := okAnd_pos h; unfold okAnd at h; cases h
      | cons y ys => exact wt_bool (ww_and ((sndT a _ Γ C S _ ρ _ l g o.l h.1 q).mono fun k ρ1 q => ⟨fun hk => sndWAnd b _ Γ C S (y :: ys) pos ρ1 Q l g o.r h.2 (q.1 hk), q.2⟩))
    · cases h
  · rename_i a b
    obtain ⟨n, rfl⟩ := okE_pos h
    unfold okE at h; split at h
    · rename_i x xs pos
      rw [Bool.and_eq_true] at h
      cases xs with
      | nil => obtain ⟨_, h⟩ := h; obtain ⟨n, rfl⟩ := okOr_pos h; unfold okOr at h; cases h
      | cons y ys => exact wt_bool (ww_or ((sndT a _ Γ C S _ ρ _ l g o.l h.1 q).mono fun k ρ1 q => ⟨fun hk => sndWOr b _ Γ C S (y :: ys) pos ρ1 Q l g o.r h.2 (q.1 hk), q.2⟩))
    · cases h
  · rename_i a
    obtain ⟨n, rfl⟩ := okE_pos h
    unfold okE at h
    exact wt_lend (sndT a _ (Γ.lend ρ) C (S.lend ρ) e (shR ρ) _ ⟨l.N, l.sc, l.fn⟩ (g.lend ρ) (fun j hj hz => (List.mem_append.mp hz).elim (q.1 j hj) (o j hj)) h q.2)
  · obtain ⟨hp, q⟩ := q
    exact wt_truth (sndO c _ Γ C S e ρ _ l g o h q) (plain_of (plainC_of hp h))
termination_by c => (sizeOf c, 2)
theorem sndAnd : ∀ (c : CE) (n : Nat) (Γ : Gam) (C : Ctx) (S : Sta) (es : List Expr) (pos : Pos) (ρ : Rho) (Q : T → Rho → Prop), Lk C S → Γ.Ok S → Off S c.owns → okAnd n C c es = true → wpV Γ c ρ Q → WV S (.BoolOp .And es pos) ρ Q := by
  intro c n Γ C S es pos ρ Q l g o h q
  obtain ⟨n, rfl⟩ := okAnd_pos h
  unfold okAnd at h
  split at h
  · exact wv_one (sndV c _ Γ C S _ ρ Q l g o h q)
  · rename_i x y ys
    split at h
    · rename_i a b
      rw [Bool.and_eq_true] at h
      unfold wpV at q
      refine wv_and ((sndV a _ Γ C S _ ρ _ l g o.l h.1 q).mono fun t ρ1 q => ?_)
      obtain ⟨k, e1, q1, q2⟩ := q
      exact ⟨k, e1, fun hk => sndAnd b _ Γ C S (y :: ys) pos ρ1 Q l g o.r h.2 (q1 hk), q2⟩
    · cases h
  · cases h
termination_by c => (sizeOf c, 1)
theorem sndOr : ∀ (c : CE) (n : Nat) (Γ : Gam) (C : Ctx) (S : Sta) (es : List Expr) (pos : Pos) (ρ : Rho) (Q : T → Rho → Prop), Lk C S → Γ.Ok S → Off S c.owns → okOr n C c es = true → wpV Γ c ρ Q → WV S (.BoolOp .Or es pos) ρ Q := by
  intro c n Γ C S es pos ρ Q l g o h q
  obtain ⟨n, rfl⟩ := okOr_pos h
  unfold okOr at h
  split at h
  · exact wv_one (sndV c _ Γ C S _ ρ Q l g o h q)
  · rename_i x y ys
    split at h
    · rename_i a b
      rw [Bool.and_eq_true] at h
      unfold wpV at q
      refine wv_or ((sndV a _ Γ C S _ ρ _ l g o.l h.1 q).mono fun t ρ1 q => ?_)
      obtain ⟨k, e1, q1, q2⟩ := q
      exact ⟨k, e1, fun hk => sndOr b _ Γ C S (y :: ys) pos ρ1 Q l g o.r h.2 (q1 hk), q2⟩
    · cases h
  · cases h
termination_by c => (sizeOf c, 1)
theorem sndWAnd : ∀ (c : CE) (n : Nat) (Γ : Gam) (C : Ctx) (S : Sta) (es : List Expr) (pos : Pos) (ρ : Rho) (Q : Bool → Rho → Prop), Lk C S → Γ.Ok S → Off S c.owns → okAnd n C c es = true → wpT Γ c ρ Q → WW S (.BoolOp .And es pos) ρ Q := by
  intro c n Γ C S es pos ρ Q l g o h q
  obtain ⟨n, rfl⟩ := okAnd_pos h
  unfold okAnd at h
  split at h
  · exact ww_and1 (sndT c _ Γ C S _ ρ Q l g o h q)
  · rename_i x y ys
    split at h
    · rename_i a b
      rw [Bool.and_eq_true] at h
      unfold wpT at q
      exact ww_and ((sndT a _ Γ C S _ ρ _ l g o.l h.1 q).mono fun k ρ1 q => ⟨fun hk => sndWAnd b _ Γ C S (y :: ys) pos ρ1 Q l g o.r h.2 (q.1 hk), q.2⟩)
    · cases h
  · cases h
termination_by c => (sizeOf c, 3)
theorem sndWOr : ∀ (c : CE) (n : Nat) (Γ : Gam) (C : Ctx) (S : Sta) (es : List Expr) (pos : Pos) (ρ : Rho) (Q : Bool → Rho → Prop), Lk C S → Γ.Ok S → Off S c.owns → okOr n C c es = true → wpT Γ c ρ Q → WW S (.BoolOp .Or es pos) ρ Q := by
  intro c n Γ C S es pos ρ Q l g o h q
  obtain ⟨n, rfl⟩ := okOr_pos h
  unfold okOr at h
  split at h
  · exact ww_or1 (sndT c _ Γ C S _ ρ Q l g o h q)
  · rename_i x y ys
    split at h
    · rename_i a b
      rw [Bool.and_eq_true] at h
      unfold wpT at q
      exact ww_or ((sndT a _ Γ C S _ ρ _ l g o.l h.1 q).mono fun k ρ1 q => ⟨fun hk => sndWOr b _ Γ C S (y :: ys) pos ρ1 Q l g o.r h.2 (q.1 hk), q.2⟩)
    · cases h
  · cases h
termination_by c => (sizeOf c, 3)
theorem sndL : ∀ (c : CL) (n : Nat) (Γ : Gam) (C : Ctx) (S : Sta) (es : List Expr) (ρ : Rho) (Q : List T → Rho → Prop), Lk C S → Γ.Ok S → Off S c.owns → okL n C c es = true → wpL Γ c ρ Q → WL S es ρ Q
  | .nil, n, Γ, C, S, es, ρ, Q, l, g, o, h, q => by
    obtain ⟨n, rfl⟩ := okL_pos h
    unfold okL at h
    rw [List.isEmpty_iff.mp h]
    unfold wpL at q
    exact wl_nil q
  | .cons c cs, n, Γ, C, S, es, ρ, Q, l, g, o, h, q => by
    obtain ⟨n, rfl⟩ := okL_pos h
    unfold okL at h; split at h
    · rename_i x ys
      rw [Bool.and_eq_true, Bool.and_eq_true] at h
      unfold wpL at q
      exact wl_cons ((sndV c _ Γ C S _ ρ _ l g o.l h.1.1 q).mono fun t ρ1 q => sndL cs _ Γ C S ys ρ1 _ l g o.r h.2 q) fun env => star_of h.1.2 ys env
    · cases h
termination_by c => (sizeOf c, 1)
theorem sndA : ∀ (c : CL) (n : Nat) (Γ : Gam) (C : Ctx) (S : Sta) (es : List Expr) (ρ : Rho) (Q : List Arg → Rho → Prop), Lk C S → Γ.Ok S → Off S c.owns → okL n C c es = true → wpA Γ c ρ Q → WA S es ρ Q
  | .nil, n, Γ, C, S, es, ρ, Q, l, g, o, h, q => by
    obtain ⟨n, rfl⟩ := okL_pos h
    unfold okL at h
    rw [List.isEmpty_iff.mp h]
    unfold wpA at q
    exact wa_nil q
  | .cons c cs, n, Γ, C, S, es, ρ, Q, l, g, o, h, q => by
    obtain ⟨n, rfl⟩ := okL_pos h
    unfold okL at h; split at h
    · rename_i x ys
      rw [Bool.and_eq_true, Bool.and_eq_true] at h
      unfold wpA at q
      split at q
      · rename_i i
        obtain ⟨⟨h1, h2⟩, h3⟩ := h
        obtain ⟨n', rfl⟩ := okE_pos h1
        unfold okE at h1; split at h1
        · rename_i nm p
          rw [Bool.and_eq_true, Bool.and_eq_true] at h1
          have hN : S.N[i]? = some nm := by rw [← l.N]; exact eq_of_beq h1.1.1
          have hv := vis_of l h1.1.2
          have hn := name_ok h1.2
          unfold argVar at q
          split at q
          · exact wa_val (wv_var i hN hv (by assumption) (sndA cs _ Γ C S ys ρ _ l g o.r h3 q) hn.1 hn.2) fun env => star_of rfl ys env
          · exact wa_bor i hN hv (by assumption) (sndA cs _ Γ C S ys ρ _ l g o.r h3 q) hn.1 hn.2 fun env => star_of rfl ys env
          · exact q.elim
        · cases h1
      · exact wa_val ((sndV c _ Γ C S _ ρ _ l g o.l h.1.1 q).mono fun t ρ1 q => sndA cs _ Γ C S ys ρ1 _ l g o.r h.2 q) fun env => star_of h.1.2 ys env
    · cases h
termination_by c => (sizeOf c, 1)
theorem sndI : ∀ (c : CI) (n : Nat) (Γ : Gam) (C : Ctx) (S : Sta) (tg : Expr) (e : Expr) (ρ : Rho) (Q : List PyData → Rho → Prop), Lk C S → Γ.Ok S → Off S c.owns → okI n C c tg e = true → wpI Γ c ρ Q → WI S tg e ρ Q
  | .list c, n, Γ, C, S, tg, e, ρ, Q, l, g, o, h, q => by
    obtain ⟨n, rfl⟩ := okI_pos h
    unfold okI at h
    unfold wpI at q
    exact wi_list (sndV c _ Γ C S e ρ _ l g o h q)
  | .tup c, n, Γ, C, S, tg, e, ρ, Q, l, g, o, h, q => by
    obtain ⟨n, rfl⟩ := okI_pos h
    unfold okI at h
    unfold wpI at q
    exact wi_tup (sndV c _ Γ C S e ρ _ l g o h q)
  | .seq c, n, Γ, C, S, tg, e, ρ, Q, l, g, o, h, q => by
    obtain ⟨n, rfl⟩ := okI_pos h
    unfold okI at h
    unfold wpI at q
    exact wi_seq (sndV c _ Γ C S e ρ _ l g o h q)
  | .range c, n, Γ, C, S, tg, e, ρ, Q, l, g, o, h, q => by
    obtain ⟨n, rfl⟩ := okI_pos h
    unfold okI at h; split at h
    · rename_i f p y pos
      simp only [Bool.and_eq_true] at h
      obtain ⟨⟨⟨h1, h2⟩, h3⟩, h4⟩ := h
      have ef := eq_of_beq h1
      subst ef
      unfold wpI at q
      exact wi_range (sndO c _ Γ C S y ρ _ l g o h3 q) (g.blt _ (by simp)) (isG_of l h2).1 fun env => star_of h4 [] env
    · cases h
  | .its U es, n, Γ, C, S, tg, e, ρ, Q, l, g, o, h, q => by
    obtain ⟨n, rfl⟩ := okI_pos h
    unfold okI at h; split at h
    · unfold wpI at q
      exact U.snd l g.blt (by assumption) (sndL es _ Γ C S _ ρ _ l g o h q)
    · cases h
termination_by c => (sizeOf c, 1)
end
end Oak
namespace Oak
open PySem PySem.Spec PyProof.Rows L2
open Tee (Dd DdAll ScrL SysAt CmpD Wd Od KD Stp upTo tU tUT tUS tU1 pe_U pt_U pss_U ps_U)
structure Stm2 where
  own : List Nat
  ck : Ctx → Stmt → Stmt → Bool
  wp : Gam → Rho → (Out → Prop) → Prop
  snd : ∀ {Γ C S s t zs ρ R R'}, Lk C S → Γ.Ok S → (∀ j ∈ own, j ∉ S.fxs) → ck C s t = true → (∀ o, R' o → thenR S zs R o) → wp Γ ρ R' → WS S (s :: t :: zs) ρ R
mutual
inductive CS where
  | set (i : Nat) (e : CE)
  | setLc (i : Nat) (e : CE) (tg : CTg) (it : CI) (own : List (Str × Nat))
  | setLcIf (i : Nat) (e : CE) (tg : CTg) (it : CI) (t : CE) (own : List (Str × Nat))
  | par (i j : Nat) (a b : CE)
  | parC (i j : Nat) (a b : CE)
  | unp (i j : Nat) (e : CE)
  | unp3 (i j l : Nat) (e : CE)
  | app (i : Nat) (e : CE)
  | sto (i : Nat) (e b : CE)
  | aug (i : Nat) (add : Bool) (e : CE)
  | ife (c : CE) (a b : CSs)
  | loop (tg : CTg) (it : CI) (body : CSs)
  | augS (i : Nat) (b e : CE)
  | ext (i : Nat) (e : CE)
  | augD (i : Nat) (b e : CE)
  | whl (c : CE) (body : CSs)
  | par3 (i j l : Nat) (a b c : CE)
  | never
  | st0 (U : Stm0)
  | stm (U : Stm) (es : CL)
  | ret (e : CE) | retN | expr (e : CE) | pass | brk | ct
inductive CSs where
  | nil | cons (s : CS) (ss : CSs) | two (U : Stm2) (ss : CSs)
end
def goFor (tg : PyData → Rho → (Rho → Prop) → Prop) (body : Rho → (Out → Prop) → Prop) (R : Out → Prop) : List PyData → Rho → Prop
  | [], ρ => R (.nx ρ)
  | d :: ds, ρ => tg d ρ fun ρ1 => body ρ1 fun o => match o with
    | .nx ρ2 => goFor tg body R ds ρ2
    | .ct ρ2 => goFor tg body R ds ρ2
    | .bk ρ2 => R (.nx ρ2)
    | .rt t ρ2 => R (.rt t ρ2)
def goWh (test : Rho → (Bool → Rho → Prop) → Prop) (body : Rho → (Out → Prop) → Prop) (R : Out → Prop) : Nat → Rho → Prop
  | 0, _ => False
  | n + 1, ρ => test ρ fun k ρ1 => (k = true → body ρ1 fun o => match o with
      | .nx ρ2 => goWh test body R n ρ2
      | .ct ρ2 => goWh test body R n ρ2
      | .bk ρ2 => R (.nx ρ2)
      | .rt t ρ2 => R (.rt t ρ2)) ∧ (k = false → R (.nx ρ1))
def andThen (k : Rho → Prop) (R : Out → Prop) : Out → Prop
  | .nx ρ => k ρ
  | .rt t ρ => R (.rt t ρ)
  | .bk ρ => R (.bk ρ)
  | .ct ρ => R (.ct ρ)
mutual
def wp1 (Γ : Gam) : CS → Rho → (Out → Prop) → Prop
  | .set i e, ρ, R => wpV Γ e ρ fun t ρ1 => R (.nx (ρ1.set i (some t)))
  | .setLc i e tg it own, ρ, R => wpI Γ it ρ fun ds ρ1 => ds.length ≤ 1000000 ∧ goLc (wpTg tg) (fun ρ k => k true ρ) (fun ρ k => wpV Γ.calm e ρ k) (own.map (·.2)) (fun acc ρ2 => R (.nx (ρ2.set i (some (.lst acc))))) ds [] (wipeR ρ1 (own.map (·.2)))
  | .setLcIf i e tg it t own, ρ, R => wpI Γ it ρ fun ds ρ1 => ds.length ≤ 1000000 ∧ goLc (wpTg tg) (fun ρ k => wpT Γ.calm t ρ k) (fun ρ k => wpV Γ.calm e ρ k) (own.map (·.2)) (fun acc ρ2 => R (.nx (ρ2.set i (some (.lst acc))))) ds [] (wipeR ρ1 (own.map (·.2)))
  | .par i j a b, ρ, R => wpV Γ a ρ fun t ρ1 => wpV Γ b ρ1 fun u ρ2 => R (.nx ((ρ2.set j (some u)).set i (some t)))
  | .parC i j a b, ρ, R => wpV Γ a ρ fun t ρ1 => wpV Γ b ρ1 fun u ρ2 => R (.nx ((ρ2.set j (some u)).set i (some t)))
  | .unp i j e, ρ, R => wpV Γ e ρ fun t ρ1 => ∃ d1 d2, (toD t = some (.tuple [d1, d2]) ∨ toD t = some (.list [d1, d2])) ∧ R (.nx ((ρ1.set i (some (.sh d1))).set j (some (.sh d2))))
  | .unp3 i j l e, ρ, R => wpV Γ e ρ fun t ρ1 => ∃ d1 d2 d3, (toD t = some (.tuple [d1, d2, d3]) ∨ toD t = some (.list [d1, d2, d3])) ∧ R (.nx (((ρ1.set i (some (.sh d1))).set j (some (.sh d2))).set l (some (.sh d3))))
  | .app i e, ρ, R => (∃ ts0, ρ[i]? = some (some (.lst ts0))) ∧ wpV Γ e ρ fun t ρ1 => ∃ ts, ρ1[i]? = some (some (.lst ts)) ∧ ts.length < sizeLine ∧ R (.nx (ρ1.set i (some (.lst (ts ++ [t])))))
  | .sto i e b, ρ, R => wpV Γ e ρ fun t ρ1 => (∃ t1, ρ1[i]? = some (some t1)) ∧ wpO Γ b ρ1 fun ob ρ2 => ∃ k j ts, ob.view ρ2 = some (.int k) ∧ ρ2[i]? = some (some (.lst ts)) ∧ ixN ts.length k = some j ∧ R (.nx (ρ2.set i (some (.lst (ts.set j t)))))
  | .aug i add e, ρ, R => ∃ n, ρ[i]? = some (some (.sh (.int n))) ∧ wpO Γ e ρ fun o ρ1 => ∃ m, o.view ρ1 = some (.int m) ∧ R (.nx (ρ1.set i (some (.sh (.int (if add then n + m else n - m))))))
  | .ife c a b, ρ, R => wpT Γ c ρ fun k ρ1 => (k = true → wpS Γ a ρ1 R) ∧ (k = false → wpS Γ b ρ1 R)
  | .loop tg it body, ρ, R => wpI Γ it ρ fun ds ρ1 => goFor (wpTg tg) (fun ρ k => wpS Γ body ρ k) R ds ρ1
  | .augS i b e, ρ, R => (∃ t1, ρ[i]? = some (some t1)) ∧ wpO Γ b ρ fun ob ρ1 => ∃ k n ds, ob.view ρ1 = some (.int k) ∧ (Opd.var i).lst ρ1 = some ds ∧ atI ds k = some (.int n) ∧ wpO Γ e ρ1 fun oe ρ2 => ∃ m ts j, oe.view ρ2 = some (.int m) ∧ ρ2[i]? = some (some (.lst ts)) ∧ ixN ts.length k = some j ∧ R (.nx (ρ2.set i (some (.lst (ts.set j (.sh (.int (n + m))))))))
  | .ext i e, ρ, R => (∃ ts0, ρ[i]? = some (some (.lst ts0))) ∧ wpV Γ e ρ fun t ρ1 => ∃ ts ds, ρ1[i]? = some (some (.lst ts)) ∧ toD t = some (.list ds) ∧ ts.length + ds.length ≤ sizeLine ∧ R (.nx (ρ1.set i (some (.lst (ts ++ ds.map .sh)))))
  | .augD i b e, ρ, R => (∃ t1, ρ[i]? = some (some t1)) ∧ wpO Γ b ρ fun ob ρ1 => ∃ k n kx ts j, ob.view ρ1 = some (.int k) ∧ ρ1[i]? = some (some (.dct (kys kx) ts)) ∧ kix kx k = some j ∧ ts[j]? = some (.sh (.int n)) ∧ wpO Γ e ρ1 fun oe ρ2 => ∃ m kx2 ts2 j2, oe.view ρ2 = some (.int m) ∧ ρ2[i]? = some (some (.dct (kys kx2) ts2)) ∧ kx2.Nodup ∧ kix kx2 k = some j2 ∧ kx2.length < sizeLine ∧ R (.nx (ρ2.set i (some (.dct (kys kx2) (ts2.set j2 (.sh (.int (n + m))))))))
  | .whl c body, ρ, R => ∃ n, goWh (fun ρ k => wpT Γ c ρ k) (fun ρ k => wpS Γ body ρ k) R n ρ
  | .par3 i j l a b c, ρ, R => wpV Γ a ρ fun t ρ1 => wpV Γ b ρ1 fun u ρ2 => wpV Γ c ρ2 fun u' ρ3 => R (.nx (((ρ3.set l (some u')).set j (some u)).set i (some t)))
  | .never, _, _ => False
  | .st0 U, ρ, R => U.wp Γ ρ R
  | .stm U es, ρ, R => wpL Γ es ρ fun ts ρ1 => U.wp Γ ts ρ1 R
  | .ret e, ρ, R => wpV Γ e ρ fun t ρ1 => R (.rt t ρ1)
  | .retN, ρ, R => R (.rt (.sh .none) ρ)
  | .expr e, ρ, R => wpV Γ e ρ fun _ ρ1 => R (.nx ρ1)
  | .pass, ρ, R => R (.nx ρ)
  | .brk, ρ, R => R (.bk ρ)
  | .ct, ρ, R => R (.ct ρ)
def wpS (Γ : Gam) : CSs → Rho → (Out → Prop) → Prop
  | .nil, ρ, R => R (.nx ρ)
  | .cons s ss, ρ, R => wp1 Γ s ρ (andThen (fun ρ1 => wpS Γ ss ρ1 R) R)
  | .two U ss, ρ, R => U.wp Γ ρ (andThen (fun ρ1 => wpS Γ ss ρ1 R) R)
end
mutual
def CS.owns : CS → List Nat
  | .set i e => i :: e.owns
  | .setLc i e _ it own => i :: (own.map (·.2) ++ (it.owns ++ e.owns))
  | .setLcIf i e _ it t own => i :: (own.map (·.2) ++ (it.owns ++ (e.owns ++ t.owns)))
  | .par i j a b | .parC i j a b => i :: j :: (a.owns ++ b.owns)
  | .unp i j e => i :: j :: e.owns
  | .unp3 i j l e => i :: j :: l :: e.owns
  | .app _ e => e.owns
  | .ext _ e => e.owns
  | .sto _ e b => e.owns ++ b.owns
  | .aug i _ e => i :: e.owns
  | .ife c a b => c.owns ++ (a.owns ++ b.owns)
  | .loop tg it body => tg.slots ++ (it.owns ++ body.owns)
  | .augS _ b e => b.owns ++ e.owns
  | .augD _ b e => b.owns ++ e.owns
  | .whl c body => c.owns ++ body.owns
  | .par3 i j l a b c => i :: j :: l :: (a.owns ++ (b.owns ++ c.owns))
  | .ret e | .expr e => e.owns
  | .stm _ es => es.owns
  | _ => []
def CSs.owns : CSs → List Nat
  | .nil => []
  | .cons s ss => s.owns ++ ss.owns
  | .two U ss => U.own ++ ss.owns
end
def notLc : Expr → Bool
  | .ListComp .. | .SetComp .. | .DictComp .. => false
  | _ => true
def apartLc (C : Ctx) (x : Str) (px : Pos) : Expr → Bool
  | .ListComp _ _ s p => !(C.sc.kind == .function && C.sc.names.lookup x == some .local && px.line == p.line && !(s.names.any fun (n, k) => n == x && (k == .local || k == .cell))) && !C.sc.kind.isAnnotationScope
  | e => notLc e
def isFn (k : ScopeKind) : Bool := match k with
  | .function => true
  | _ => false
def parOk (C : Ctx) (x y : Str) (px py : Pos) (a b : Expr) : Bool :=
  isFn C.sc.kind && C.sc.names.lookup x == some .local && C.sc.names.lookup y == some .local && !(x == y) && px.line == py.line && !(foldedForSure 8 a && foldedForSure 8 b) && !(constantsAlone 8 a && constantsAlone 8 b)
def parOk3 (C : Ctx) (x y z : Str) (px py pz : Pos) (a b c : Expr) : Bool :=
  isFn C.sc.kind && C.sc.names.lookup x == some .local && C.sc.names.lookup y == some .local && C.sc.names.lookup z == some .local && !(x == y) && !(x == z) && !(y == z) && px.line == py.line && px.line == pz.line && !(foldedForSure 8 a && foldedForSure 8 b && foldedForSure 8 c) && !(constantsAlone 8 a && constantsAlone 8 b && constantsAlone 8 c)
def parCOk (C : Ctx) (x y : Str) (px py : Pos) (a b : Expr) : Bool :=
  isFn C.sc.kind && (!(C.sc.names.lookup x == some .local) || !(C.sc.names.lookup y == some .local) || !(px.line == py.line) || (foldedForSure 8 a && foldedForSure 8 b))
def notTup : Expr → Bool
  | .Tuple .. => false
  | _ => true
mutual
def ok1 (C : Ctx) : CS → Stmt → Bool
  | .set i e, s => match s with
    | .Assign [.Name x px] v _ => C.own1 i x && okE 200 C e v && apartLc C x px v
    | _ => false
  | .setLc i a tg it own, s => match s with
    | .Assign [.Name y py] (.ListComp x [⟨t, iter, [], 0⟩] scope p) _ => C.own1 i y && isFn C.sc.kind && C.sc.names.lookup y == some .local && py.line == p.line && !(scope.names.any fun (n, k) => n == y && (k == .local || k == .cell)) &&
      okI 200 C it t iter && okTg (C.inBlk scope) tg t && okE 200 (C.inBlk scope) a x && blkC C.N C.sc scope own && tg.slots.all (fun j => (own.map (·.2)).contains j) && notSet iter
    | _ => false
  | .setLcIf i a tg it c own, s => match s with
    | .Assign [.Name y py] (.ListComp x [⟨t, iter, [z], 0⟩] scope p) _ => C.own1 i y && isFn C.sc.kind && C.sc.names.lookup y == some .local && py.line == p.line && !(scope.names.any fun (n, k) => n == y && (k == .local || k == .cell)) &&
      okI 200 C it t iter && okTg (C.inBlk scope) tg t && okE 200 (C.inBlk scope) a x && okE 200 (C.inBlk scope) c z && blkC C.N C.sc scope own && tg.slots.all (fun j => (own.map (·.2)).contains j) && notSet iter
    | _ => false
  | .par i j a b, s => match s with
    | .Assign [.Tuple [.Name x px, .Name y py] _ _] (.Tuple [v, w] _ _) _ => C.own1 i x && C.own1 j y && !(i == j) && okE 200 C a v && okE 200 C b w && notStar v && notStar w && parOk C x y px py v w
    | _ => false
  | .parC i j a b, s => match s with
    | .Assign [.Tuple [.Name x px, .Name y py] _ _] (.Tuple [v, w] _ _) _ => C.own1 i x && C.own1 j y && !(i == j) && okE 200 C a v && okE 200 C b w && notStar v && notStar w && parCOk C x y px py v w
    | _ => false
  | .unp i j e, s => match s with
    | .Assign [.Tuple [.Name x _, .Name y _] _ _] v _ => C.own1 i x && C.own1 j y && okE 200 C e v && notTup v && notLc v
    | _ => false
  | .unp3 i j l e, s => match s with
    | .Assign [.Tuple [.Name x _, .Name y _, .Name z _] _ _] v _ => C.own1 i x && C.own1 j y && C.own1 l z && okE 200 C e v && notTup v && notLc v
    | _ => false
  | .app i e, s => match s with
    | .Expr (.Call (.Attribute (.Name x _) m pa) [v] [] pc) _ => m == ("append" : Str) && C.N[i]? == some x && C.vis x && okName x && okE 200 C e v && notStar v && pa.endLine == pc.line
    | _ => false
  | .sto i e b, s => match s with
    | .Assign [.Subscript (.Name x _) k _] v _ => C.N[i]? == some x && C.vis x && okName x && okE 200 C e v && okE 200 C b k && notLc v && (match k with
      | .Slice .. => false
      | _ => true)
    | _ => false
  | .aug i add e, s => match s with
    | .AugAssign (.Name x _) op v _ => C.own1 i x && okE 200 C e v && (match op with
      | .Add => add
      | .Sub => !add
      | _ => false)
    | _ => false
  | .ife c a b, s => match s with
    | .If t x y _ => okE 200 C c t && okS C a x && okS C b y
    | _ => false
  | .loop tg it body, s => match s with
    | .For t iter x [] _ => okTg C tg t && okI 200 C it t iter && okS C body x && notSet iter
    | _ => false
  | .augS i b e, s => match s with
    | .AugAssign (.Subscript (.Name x _) k _) .Add v _ => C.N[i]? == some x && C.vis x && okName x && okE 200 C b k && okE 200 C e v && (match k with
      | .Slice .. => false
      | _ => true)
    | _ => false
  | .ext i e, s => match s with
    | .Expr (.Call (.Attribute (.Name x _) m pa) [v] [] pc) _ => m == ("extend" : Str) && C.N[i]? == some x && C.vis x && okName x && okE 200 C e v && notStar v && pa.endLine == pc.line
    | _ => false
  | .augD i b e, s => match s with
    | .AugAssign (.Subscript (.Name x _) k _) .Add v _ => C.N[i]? == some x && C.vis x && okName x && okE 200 C b k && okE 200 C e v && (match k with
      | .Slice .. => false
      | _ => true)
    | _ => false
  | .whl c body, s => match s with
    | .While t x [] _ => okE 200 C c t && okS C body x
    | _ => false
  | .par3 i j l a b c, s => match s with
    | .Assign [.Tuple [.Name x px, .Name y py, .Name z pz] _ _] (.Tuple [v, w, u] _ _) _ => C.own1 i x && C.own1 j y && C.own1 l z && !(i == j) && !(i == l) && !(j == l) && okE 200 C a v && okE 200 C b w && okE 200 C c u && notStar v && notStar w && notStar u && parOk3 C x y z px py pz v w u
    | _ => false
  | .never, _ => true
  | .st0 U, s => U.ck C s
  | .stm U es, s => match U.ck C s with
    | some xs => okL 200 C es xs
    | none => false
  | .ret e, s => match s with
    | .Return (some v) _ => okE 200 C e v
    | _ => false
  | .retN, s => match s with
    | .Return none _ => true
    | _ => false
  | .expr e, s => match s with
    | .Expr v _ => okE 200 C e v && notLc v
    | _ => false
  | .pass, s => match s with
    | .Pass _ => true
    | _ => false
  | .brk, s => match s with
    | .Break _ => true
    | _ => false
  | .ct, s => match s with
    | .Continue _ => true
    | _ => false
def okS (C : Ctx) : CSs → List Stmt → Bool
  | .nil, xs => xs.isEmpty
  | .cons s ss, xs => match xs with
    | x :: ys => ok1 C s x && okS C ss ys
    | [] => false
  | .two U ss, xs => match xs with
    | x :: y :: zs => U.ck C x y && okS C ss zs
    | _ => false
end
end Oak
namespace Oak
open PySem PySem.Spec PyProof.Rows L2
open Tee (Dd DdAll ScrL SysAt CmpD Wd Od KD Stp upTo tU tUT tUS tU1 pe_U pt_U pss_U ps_U)
theorem isFn_of {k : ScopeKind} (h : isFn k = true) : k = .function := by
  unfold isFn at h
  split at h
  · rfl
  · cases h
theorem sw_notLc {e : Expr} (h : notLc e = true) (t : Option Expr) (l : Nat) (env : Env) : swapsWith e t l env = pure false := by
  cases e <;> first | rfl | cases h
theorem sw_sole {e : Expr} (h : notLc e = true) (t : Expr) (l : Nat) (env : Env) : swapsWithSole [t] e l env = pure false := sw_notLc h (some t) l env
theorem sw_apart {C : Ctx} {x : Str} {px : Pos} {e : Expr} (h : apartLc C x px e = true) (l : Nat) (env : Env) (he : env.scope = C.sc) : swapsWith e (some (.Name x px)) l env = pure false := by
  unfold apartLc at h
  split at h
  · rename_i elt gs s p
    rw [Bool.and_eq_true] at h
    obtain ⟨h1, h2⟩ := h
    have hb : env.blockKind = C.sc.kind := by
      unfold Env.blockKind
      rw [he]
      rw [if_neg]
      intro z
      rw [z] at h2
      cases h2
    have hk : env.kindOf x = C.sc.names.lookup x := by
      show env.scope.names.lookup x = _
      rw [he]
    unfold swapsWith
    simp only [hb, hk, Expr.pos]
    have h1 : (C.sc.kind == .function && C.sc.names.lookup x == some .local && px.line == p.line && !(s.names.any fun (n, k) => n == x && (k == .local || k == .cell))) = false := (Bool.not_eq_true' _).mp h1
    show (pure _ : Sem Bool) = pure false
    rw [h1]
  · exact sw_notLc h _ _ _
theorem sw_some {x y : Str} {px py pt pt2 : Pos} {a b : Expr} {kt k2 : Nat} {env : Env} (hk : env.scope.kind = .function) (hx : env.scope.names.lookup x = some .local) (hy : env.scope.names.lookup y = some .local) (hne : (x == y) = false) (hln : px.line = py.line)
    (ha : notStar a = true) (hb : notStar b = true) (hf : (foldedForSure 8 a && foldedForSure 8 b) = false) (hc : (constantsAlone 8 a && constantsAlone 8 b) = false) :
    swappedStores [.Tuple [.Name x px, .Name y py] kt pt] (.Tuple [a, b] k2 pt2) env = pure (some [x, y]) := by
  have hb2 : env.blockKind = .function := by unfold Env.blockKind; rw [hk]; rfl
  have kx : env.kindOf x = some .local := hx
  have ky : env.kindOf y = some .local := hy
  have hne2 : (y == x) = false := by
    rw [Bool.eq_false_iff] at hne ⊢
    intro z
    rw [eq_of_beq z] at hne
    exact hne (beq_self_eq_true _)
  unfold swappedStores
  simp [hb2, kx, ky, hne, hne2, hln, Expr.pos, hf, hc, List.eraseDups, List.eraseDupsBy, List.eraseDupsBy.loop]
  rintro (z | z)
  · cases a <;> first | (cases ha; done) | exact absurd z (by simp)
  · cases b <;> first | (cases hb; done) | exact absurd z (by simp)
theorem sw_none {x y : Str} {px py pt pt2 : Pos} {a b : Expr} {kt k2 : Nat} {env : Env} (hk : env.scope.kind = .function)
    (ha : notStar a = true) (hb : notStar b = true) (h : (!(env.scope.names.lookup x == some .local) || !(env.scope.names.lookup y == some .local) || !(px.line == py.line) || (foldedForSure 8 a && foldedForSure 8 b)) = true) :
    swappedStores [.Tuple [.Name x px, .Name y py] kt pt] (.Tuple [a, b] k2 pt2) env = pure none := by
  have hb2 : env.blockKind = .function := by unfold Env.blockKind; rw [hk]; rfl
  have kx : env.kindOf x = env.scope.names.lookup x := rfl
  have ky : env.kindOf y = env.scope.names.lookup y := rfl
  unfold swappedStores
  simp [hb2, Expr.pos]
  intro _ _ h1 h2 h3
  exfalso
  by_cases cx : env.kindOf x = some .local
  · by_cases cy : env.kindOf y = some .local ∧ py.line = px.line
    · rw [kx] at cx
      rw [ky] at cy
      rw [cx, cy.1, cy.2] at h
      simp at h
      rw [h3 h.1] at h
      cases h.2
    · simp [List.filterMap_cons, cx, cy] at h1
  · by_cases cy : env.kindOf y = some .local ∧ py.line = px.line
    · simp [List.filterMap_cons, cx, cy] at h1
    · simp [List.filterMap_cons, cx, cy] at h1
theorem w1_aug {S : Sta} {ρ : Rho} {R : Out → Prop} {e : Expr} {x : Str} {p pos : Pos} (i : Nat) (add : Bool) {n : Int} (hr : ρ[i]? = some (some (.sh (.int n)))) (h : WO S e ρ fun o ρ1 => ∃ m, o.view ρ1 = some (.int m) ∧ R (.nx (ρ1.set i (some (.sh (.int (if add then n + m else n - m))))))) (o : Own1 S i x) :
    W1 S (.AugAssign (.Name x p) (if add then .Add else .Sub) e pos) ρ R := by
  intro X B sd σ τ G H E D ok
  have f := sd.fit
  obtain ⟨v, hs, E0⟩ := E.take hr
  have ev := E0.dd.intV
  subst ev
  have fin : ∀ {o : Opd} {ρ1 : Rho} {u : V} {G1 H1 : Hp} {m : Int}, EnvR S.K B ρ1 σ (o.cells u τ) [] G1 H1 → o.ok u σ → o.view ρ1 = some (.int m) → R (.nx (ρ1.set i (some (.sh (.int (if add then n + m else n - m)))))) → u = .int m ∧ D.nx (σ.set i (some (.int (if add then n + m else n - m)))) H1 := fun {o' ρ1 u G1 H1 m} E1 ok1 e1 r =>
    ⟨(Opd.dd E1 ok1 e1).intV, ok.nx _ _ _ _ r (((Opd.drop E1).int _).put (sd.off o.2.2.2))⟩
  cases add with
  | true =>
    refine Tee.W1.by (ps_aug (i := i) f.nd (by rw [f.N]; exact o.1) (by unfold L2.Loc; rw [f.sc]; exact o.2.1) pe_U ip_add (o.2.2.1.elim (fun z => .inl (f.fn _ z)) (fun z => .inr (by rw [f.sc]; exact z)))) ⟨_, hs, h X B sd σ τ G H E _ fun o' ρ1 u G1 H1 q E1 ok1 => ?_⟩
    obtain ⟨m, e1, r⟩ := q
    obtain ⟨eu, d⟩ := fin E1 ok1 e1 r
    exact ⟨n, m, rfl, eu, d⟩
  | false =>
    refine Tee.W1.by (ps_aug (i := i) f.nd (by rw [f.N]; exact o.1) (by unfold L2.Loc; rw [f.sc]; exact o.2.1) pe_U ip_sub (o.2.2.1.elim (fun z => .inl (f.fn _ z)) (fun z => .inr (by rw [f.sc]; exact z)))) ⟨_, hs, h X B sd σ τ G H E _ fun o' ρ1 u G1 H1 q E1 ok1 => ?_⟩
    obtain ⟨m, e1, r⟩ := q
    obtain ⟨eu, d⟩ := fin E1 ok1 e1 r
    exact ⟨n, m, rfl, eu, d⟩
theorem ForGo_of {S : Sta} {tg : Expr} {L : List Nat} {body : List Stmt} {R : Out → Prop} {wtg : PyData → Rho → (Rho → Prop) → Prop} {wb : Rho → (Out → Prop) → Prop}
    (h1 : ∀ d ρ Kk, wtg d ρ Kk → WTg S tg L ρ d Kk) (h2 : ∀ ρ R, wb ρ R → WS S body ρ R) : ∀ (ds : List PyData) (ρ : Rho), goFor wtg wb R ds ρ → ForGo S tg L body R ds ρ
  | [], ρ, h => h
  | d :: ds, ρ, h => (h1 _ _ _ h).mono fun ρ1 q => (h2 _ _ q).mono fun o q => match o, q with
    | .nx ρ2, q => ForGo_of h1 h2 ds ρ2 q
    | .ct ρ2, q => ForGo_of h1 h2 ds ρ2 q
    | .bk _, q => q
    | .rt _ _, q => q
theorem sw_tup {ts : List Expr} {kt : Nat} {pt : Pos} {e : Expr} (h : notTup e = true) (env : Env) : swappedStores [.Tuple ts kt pt] e env = pure none := by
  cases e <;> first | rfl | cases h
theorem Off.cons {S : Sta} {i : Nat} {l : List Nat} (h : Off S (i :: l)) : i ∉ S.fxs ∧ Off S l := ⟨h i List.mem_cons_self, fun j hj => h j (List.mem_cons_of_mem _ hj)⟩
theorem WhGo_of {S : Sta} {c : Expr} {body : List Stmt} {R : Out → Prop} {wt : Rho → (Bool → Rho → Prop) → Prop} {wb : Rho → (Out → Prop) → Prop}
    (h1 : ∀ ρ Kk, wt ρ Kk → WT S c ρ Kk) (h2 : ∀ ρ R, wb ρ R → WS S body ρ R) : ∀ (n : Nat) (ρ : Rho), goWh wt wb R n ρ → WhGo S c body R n ρ
  | 0, ρ, h => h
  | n + 1, ρ, h => (h1 _ _ h).mono fun k ρ1 q => ⟨fun hk => (h2 _ _ (q.1 hk)).mono fun o q => match o, q with
    | .nx ρ2, q => WhGo_of h1 h2 n ρ2 q
    | .ct ρ2, q => WhGo_of h1 h2 n ρ2 q
    | .bk _, q => q
    | .rt _ _, q => q, q.2⟩
theorem sw_some3 {x y z : Str} {px py pz pt pt2 : Pos} {a b c : Expr} {kt k2 : Nat} {env : Env} (hk : env.scope.kind = .function) (hx : env.scope.names.lookup x = some .local) (hy : env.scope.names.lookup y = some .local) (hz : env.scope.names.lookup z = some .local)
    (hxy : (x == y) = false) (hxz : (x == z) = false) (hyz : (y == z) = false) (hln : px.line = py.line) (hln2 : px.line = pz.line)
    (ha : notStar a = true) (hb : notStar b = true) (hc0 : notStar c = true) (hf : (foldedForSure 8 a && foldedForSure 8 b && foldedForSure 8 c) = false) (hc : (constantsAlone 8 a && constantsAlone 8 b && constantsAlone 8 c) = false) :
    swappedStores [.Tuple [.Name x px, .Name y py, .Name z pz] kt pt] (.Tuple [a, b, c] k2 pt2) env = pure (some [x, y, z]) := by
  have hb2 : env.blockKind = .function := by unfold Env.blockKind; rw [hk]; rfl
  have kx : env.kindOf x = some .local := hx
  have ky : env.kindOf y = some .local := hy
  have kz : env.kindOf z = some .local := hz
  have sy : ∀ {u v : Str}, (u == v) = false → (v == u) = false := fun h => by
    rw [Bool.eq_false_iff] at h ⊢
    intro z
    rw [eq_of_beq z] at h
    exact h (beq_self_eq_true _)
  have hyx := sy hxy
  have hzx := sy hxz
  have hzy := sy hyz
  have hln3 : py.line = pz.line := hln.symm.trans hln2
  unfold swappedStores
  simp [hb2, kx, ky, kz, hxy, hxz, hyz, hyx, hzx, hzy, hln, hln3, Expr.pos, hf, hc, List.eraseDups, List.eraseDupsBy, List.eraseDupsBy.loop]
  have s0 : ∀ {e : Expr}, notStar e = true → ¬ ((match e with
      | .Starred _ _ => true
      | _ => false) = true) := by
    intro e h z
    cases e <;> first | (cases h; done) | exact absurd z (by simp)
  rw [if_neg, if_neg, if_neg]
  · rintro ⟨q1, q2, q3⟩
    rw [q1, q2, q3] at hc
    exact absurd hc (by decide)
  · rintro ⟨q1, q2, q3⟩
    rw [q1, q2, q3] at hf
    exact absurd hf (by decide)
  · rintro (z | z | z)
    · exact s0 ha z
    · exact s0 hb z
    · exact s0 hc0 z
mutual
theorem snd1 : ∀ (c : CS) (Γ : Gam) (C : Ctx) (S : Sta) (s : Stmt) (ρ : Rho) (R : Out → Prop), Lk C S → Γ.Ok S → Off S c.owns → ok1 C c s = true → wp1 Γ c ρ R → W1 S s ρ R
  | .set i e, Γ, C, S, s, ρ, R, l, g, o, h, q => by
    unfold ok1 at h; split at h
    · simp only [Bool.and_eq_true] at h
      unfold wp1 at q
      exact w1_set i (sndV e _ Γ C S _ ρ _ l g o.cons.2 h.1.2 q) (own1_of l h.1.1 o.cons.1) fun env he => sw_apart h.2 _ env (he.trans l.sc.symm)
    · cases h
  | .setLc i a tg it own, Γ, C, S, s, ρ, R, l, g, o, h, q => by
    unfold ok1 at h; split at h
    · rename_i y py x t iter scope p pos
      simp only [Bool.and_eq_true] at h
      obtain ⟨⟨⟨⟨⟨⟨⟨⟨⟨⟨g1, g2⟩, g3⟩, g4⟩, g5⟩, h1⟩, h2⟩, h3⟩, h4⟩, h5⟩, h7⟩ := h
      unfold wp1 at q
      have o' : Off S (own.map (·.2) ++ (it.owns ++ a.owns)) := o.cons.2
      have hL : ∀ j ∈ tg.slots, j ∈ own.map (·.2) := fun j hj => List.contains_iff_mem.mp (List.all_eq_true.mp h5 j hj)
      exact w1_setLc i own tg.slots ((sndI it _ Γ C S t _ ρ _ l g o'.r.l h1 q).mono fun ds ρ1 q => ⟨q.1, LcGo_of (fun d ρ Kk k => wpTg_of (l.blk scope) h2 (fun j hj => o'.l j (hL j hj)) k) (fun ρ Kk k => k) (fun ρ Kk k => sndV a _ Γ.calm (C.inBlk scope) (S.blk scope) x ρ Kk (l.blk scope) (g.blk scope) o'.r.r h3 k) ds [] _ q.2⟩)
        (own1_of l g1 o.cons.1) (by rw [← l.sc]; exact isFn_of g2) g4 (by rw [← l.sc]; exact eq_of_beq g3) ((Bool.not_eq_true' _).mp g5) (by rw [← l.N, ← l.sc]; exact h4) hL o'.l (Nat.zero_le _) (folded_of h7)
    · cases h
  | .setLcIf i a tg it c own, Γ, C, S, s, ρ, R, l, g, o, h, q => by
    unfold ok1 at h; split at h
    · rename_i y py x t iter z scope p pos
      simp only [Bool.and_eq_true] at h
      obtain ⟨⟨⟨⟨⟨⟨⟨⟨⟨⟨⟨g1, g2⟩, g3⟩, g4⟩, g5⟩, h1⟩, h2⟩, h3⟩, h8⟩, h4⟩, h5⟩, h7⟩ := h
      unfold wp1 at q
      have o' : Off S (own.map (·.2) ++ (it.owns ++ (a.owns ++ c.owns))) := o.cons.2
      have hL : ∀ j ∈ tg.slots, j ∈ own.map (·.2) := fun j hj => List.contains_iff_mem.mp (List.all_eq_true.mp h5 j hj)
      exact w1_setLc i own tg.slots ((sndI it _ Γ C S t _ ρ _ l g o'.r.l h1 q).mono fun ds ρ1 q => ⟨q.1, LcGo_of (ifs := [z]) (fun d ρ Kk k => wpTg_of (l.blk scope) h2 (fun j hj => o'.l j (hL j hj)) k) (fun ρ Kk k => (sndT c _ Γ.calm (C.inBlk scope) (S.blk scope) z ρ Kk (l.blk scope) (g.blk scope) o'.r.r.r h8 k : WT (S.blk scope) z ρ Kk)) (fun ρ Kk k => sndV a _ Γ.calm (C.inBlk scope) (S.blk scope) x ρ Kk (l.blk scope) (g.blk scope) o'.r.r.l h3 k) ds [] _ q.2⟩)
        (own1_of l g1 o.cons.1) (by rw [← l.sc]; exact isFn_of g2) g4 (by rw [← l.sc]; exact eq_of_beq g3) ((Bool.not_eq_true' _).mp g5) (by rw [← l.N, ← l.sc]; exact h4) hL o'.l (Nat.le_refl _) (folded_of h7)
    · cases h
  | .par i j a b, Γ, C, S, s, ρ, R, l, g, o, h, q => by
    unfold ok1 at h; split at h
    · rename_i x px y py kt pt v w k2 pt2 pos
      simp only [Bool.and_eq_true] at h
      obtain ⟨⟨⟨⟨⟨⟨⟨h1, h2⟩, h3⟩, h4⟩, h5⟩, h6⟩, h7⟩, h8⟩ := h
      unfold parOk at h8
      simp only [Bool.and_eq_true] at h8
      obtain ⟨⟨⟨⟨⟨⟨k1, kx⟩, ky⟩, k3⟩, k4⟩, k5⟩, k6⟩ := h8
      unfold wp1 at q
      have ex := eq_of_beq kx
      have ey := eq_of_beq ky
      rw [l.sc] at ex ey
      refine w1_par i j ((sndV a _ Γ C S _ ρ _ l g o.cons.2.cons.2.l h4 q).mono fun t ρ1 q => sndV b _ Γ C S _ ρ1 _ l g o.cons.2.cons.2.r h5 q) (own1_of l h1 o.cons.1) (own1_of l h2 o.cons.2.cons.1) (fun z => by rw [z] at h3; simp at h3) ex ey
        (fun env he => sw_some (by rw [he, ← l.sc]; exact isFn_of k1) (by rw [he]; exact ex) (by rw [he]; exact ey) ((Bool.not_eq_true' _).mp k3) (eq_of_beq k4) h6 h7 ((Bool.not_eq_true' _).mp k5) ((Bool.not_eq_true' _).mp k6))
        (fun env => rfl) ⟨fun env => star_of h6 [w] env, fun env => star_of h7 [] env, trivial⟩
    · cases h
  | .parC i j a b, Γ, C, S, s, ρ, R, l, g, o, h, q => by
    unfold ok1 at h; split at h
    · rename_i x px y py kt pt v w k2 pt2 pos
      simp only [Bool.and_eq_true] at h
      obtain ⟨⟨⟨⟨⟨⟨⟨h1, h2⟩, h3⟩, h4⟩, h5⟩, h6⟩, h7⟩, h8⟩ := h
      unfold parCOk at h8
      rw [Bool.and_eq_true] at h8
      unfold wp1 at q
      refine w1_parC i j ((sndV a _ Γ C S _ ρ _ l g o.cons.2.cons.2.l h4 q).mono fun t ρ1 q => sndV b _ Γ C S _ ρ1 _ l g o.cons.2.cons.2.r h5 q) (own1_of l h1 o.cons.1) (own1_of l h2 o.cons.2.cons.1) (fun z => by rw [z] at h3; simp at h3)
        (fun env he => sw_none (by rw [he, ← l.sc]; exact isFn_of h8.1) h6 h7 (by rw [he, ← l.sc]; exact h8.2))
        (fun env => rfl) ⟨fun env => star_of h6 [w] env, fun env => star_of h7 [] env, trivial⟩ (fun env => rfl)
    · cases h
  | .unp i j e, Γ, C, S, s, ρ, R, l, g, o, h, q => by
    unfold ok1 at h; split at h
    · simp only [Bool.and_eq_true] at h
      obtain ⟨⟨⟨⟨h1, h2⟩, h3⟩, h4⟩, h5⟩ := h
      unfold wp1 at q
      exact w1_unpack i j (sndV e _ Γ C S _ ρ _ l g o.cons.2.cons.2 h3 q) (own1_of l h1 o.cons.1) (own1_of l h2 o.cons.2.cons.1) (fun env _ => sw_tup h4 env) (fun env => sw_sole h5 _ _ env) (fun env => rfl)
    · cases h
  | .unp3 i j k e, Γ, C, S, s, ρ, R, l, g, o, h, q => by
    unfold ok1 at h; split at h
    · simp only [Bool.and_eq_true] at h
      obtain ⟨⟨⟨⟨⟨h1, h2⟩, h2'⟩, h3⟩, h4⟩, h5⟩ := h
      unfold wp1 at q
      exact w1_unpack3 i j k (sndV e _ Γ C S _ ρ _ l g o.cons.2.cons.2.cons.2 h3 q) (own1_of l h1 o.cons.1) (own1_of l h2 o.cons.2.cons.1) (own1_of l h2' o.cons.2.cons.2.cons.1) (fun env _ => sw_tup h4 env) (fun env => sw_sole h5 _ _ env) (fun env => rfl)
    · cases h
  | .app i e, Γ, C, S, s, ρ, R, l, g, o, h, q => by
    unfold ok1 at h; split at h
    · simp only [Bool.and_eq_true] at h
      obtain ⟨⟨⟨⟨⟨⟨h1, h2⟩, h3⟩, h4⟩, h5⟩, h6⟩, h7⟩ := h
      have em := eq_of_beq h1
      subst em
      unfold wp1 at q
      obtain ⟨⟨ts0, h0⟩, q⟩ := q
      exact w1_append i (sndV e _ Γ C S _ ρ _ l g o h5 q) h0 ⟨ts0, rfl⟩ (by rw [← l.N]; exact eq_of_beq h2) (vis_of l h3) (name_ok h4).1 (name_ok h4).2 ⟨fun env => star_of h6 [] env, trivial⟩
        (fun env => by rw [star_of h6]; rfl) (fun env => rfl) h7 (fun env => rfl)
    · cases h
  | .sto i e b, Γ, C, S, s, ρ, R, l, g, o, h, q => by
    unfold ok1 at h; split at h
    · rename_i x px k ps v pos
      simp only [Bool.and_eq_true] at h
      obtain ⟨⟨⟨⟨⟨⟨h1, h2⟩, h3⟩, h4⟩, h5⟩, h7⟩, h8⟩ := h
      unfold wp1 at q
      exact w1_store i ((sndV e _ Γ C S _ ρ _ l g o.l h4 q).mono fun t ρ1 q => ⟨q.1, sndO b _ Γ C S _ ρ1 _ l g o.r h5 q.2⟩) (by rw [← l.N]; exact eq_of_beq h1) (vis_of l h2) (name_ok h3).1 (name_ok h3).2
        (fun env v => by cases k <;> first | rfl | cases h8) (fun env => sw_sole h7 _ _ env) (fun env => by cases v <;> rfl) (fun env => rfl)
    · cases h
  | .aug i add e, Γ, C, S, s, ρ, R, l, g, o, h, q => by
    unfold ok1 at h; split at h
    · rename_i x px op v pos
      simp only [Bool.and_eq_true] at h
      obtain ⟨⟨h1, h2⟩, h3⟩ := h
      unfold wp1 at q
      obtain ⟨n, hr, q⟩ := q
      have k := w1_aug (p := px) (pos := pos) i add hr (sndO e _ Γ C S v ρ _ l g o.cons.2 h2 q) (own1_of l h1 o.cons.1)
      split at h3
      · rw [h3] at k; exact k
      · rw [(Bool.not_eq_true' _).mp h3] at k; exact k
      · cases h3
    · cases h
  | .ife c a b, Γ, C, S, s, ρ, R, l, g, o, h, q => by
    unfold ok1 at h; split at h
    · simp only [Bool.and_eq_true] at h
      unfold wp1 at q
      exact w1_if ((sndT c _ Γ C S _ ρ _ l g o.l h.1.1 q).mono fun k ρ1 q => ⟨fun hk => sndS a Γ C S _ ρ1 R l g o.r.l h.1.2 (q.1 hk), fun hk => sndS b Γ C S _ ρ1 R l g o.r.r h.2 (q.2 hk)⟩)
    · cases h
  | .loop tg it body, Γ, C, S, s, ρ, R, l, g, o, h, q => by
    unfold ok1 at h; split at h
    · rename_i t iter x pos
      simp only [Bool.and_eq_true] at h
      obtain ⟨⟨⟨h1, h2⟩, h3⟩, h4⟩ := h
      unfold wp1 at q
      exact w1_for tg.slots ((sndI it _ Γ C S t _ ρ _ l g o.r.l h2 q).mono fun ds ρ1 q => ForGo_of (fun d ρ Kk k => wpTg_of l h1 o.l k) (fun ρ R k => sndS body Γ C S x ρ R l g o.r.r h3 k) ds ρ1 q) (folded_of h4)
    · cases h
  | .augS i b e, Γ, C, S, s, ρ, R, l, g, o, h, q => by
    unfold ok1 at h; split at h
    · rename_i x px k ps v pos
      simp only [Bool.and_eq_true] at h
      obtain ⟨⟨⟨⟨⟨h1, h2⟩, h3⟩, h4⟩, h5⟩, h8⟩ := h
      unfold wp1 at q
      obtain ⟨⟨t1, hr0⟩, q⟩ := q
      exact w1_augS i hr0 ((sndO b _ Γ C S _ ρ _ l g o.l h4 q).mono fun ob ρ1 ⟨k, n, ds, e1, e2, e3, q⟩ => ⟨k, n, ds, e1, e2, e3, sndO e _ Γ C S _ ρ1 _ l g o.r h5 q⟩) (by rw [← l.N]; exact eq_of_beq h1) (vis_of l h2) (name_ok h3).1 (name_ok h3).2
        (fun ov iv new => by cases k <;> first | rfl | cases h8)
    · cases h
  | .ext i e, Γ, C, S, s, ρ, R, l, g, o, h, q => by
    unfold ok1 at h; split at h
    · simp only [Bool.and_eq_true] at h
      obtain ⟨⟨⟨⟨⟨⟨h1, h2⟩, h3⟩, h4⟩, h5⟩, h6⟩, h7⟩ := h
      have em := eq_of_beq h1
      subst em
      unfold wp1 at q
      obtain ⟨⟨ts0, h0⟩, q⟩ := q
      exact w1_extend i (sndV e _ Γ C S _ ρ _ l g o h5 q) h0 ⟨ts0, rfl⟩ (by rw [← l.N]; exact eq_of_beq h2) (vis_of l h3) (name_ok h4).1 (name_ok h4).2 ⟨fun env => star_of h6 [] env, trivial⟩
        (fun env => by rw [star_of h6]; rfl) (fun env => rfl) h7 (fun env => rfl)
    · cases h
  | .augD i b e, Γ, C, S, s, ρ, R, l, g, o, h, q => by
    unfold ok1 at h; split at h
    · rename_i x px k ps v pos
      simp only [Bool.and_eq_true] at h
      obtain ⟨⟨⟨⟨⟨h1, h2⟩, h3⟩, h4⟩, h5⟩, h8⟩ := h
      unfold wp1 at q
      obtain ⟨⟨t1, hr0⟩, q⟩ := q
      exact w1_augD i hr0 ((sndO b _ Γ C S _ ρ _ l g o.l h4 q).mono fun ob ρ1 ⟨k, n, kx, ts, j, e1, e2, e3, e4, q⟩ => ⟨k, n, kx, ts, j, e1, e2, e3, e4, sndO e _ Γ C S _ ρ1 _ l g o.r h5 q⟩) (by rw [← l.N]; exact eq_of_beq h1) (vis_of l h2) (name_ok h3).1 (name_ok h3).2
        (fun ov iv new => by cases k <;> first | rfl | cases h8)
    · cases h
  | .whl c body, Γ, C, S, s, ρ, R, l, g, o, h, q => by
    unfold ok1 at h; split at h
    · rename_i t x pos
      rw [Bool.and_eq_true] at h
      unfold wp1 at q
      obtain ⟨n, q⟩ := q
      exact w1_while n (WhGo_of (fun ρ Kk k => sndT c _ Γ C S t ρ Kk l g o.l h.1 k) (fun ρ R k => sndS body Γ C S x ρ R l g o.r h.2 k) n ρ q)
    · cases h
  | .par3 i j k a b c, Γ, C, S, s, ρ, R, l, g, o, h, q => by
    unfold ok1 at h; split at h
    · rename_i x px y py z pz kt pt v w u k2 pt2 pos
      simp only [Bool.and_eq_true] at h
      obtain ⟨⟨⟨⟨⟨⟨⟨⟨⟨⟨⟨⟨h1, h2⟩, h2'⟩, h3⟩, h3'⟩, h3''⟩, h4⟩, h5⟩, h5'⟩, h6⟩, h7⟩, h7'⟩, h8⟩ := h
      unfold parOk3 at h8
      simp only [Bool.and_eq_true] at h8
      obtain ⟨⟨⟨⟨⟨⟨⟨⟨⟨⟨k1, kx⟩, ky⟩, kz⟩, k3⟩, k3'⟩, k3''⟩, k4⟩, k4'⟩, k5⟩, k6⟩ := h8
      unfold wp1 at q
      have ex := eq_of_beq kx
      have ey := eq_of_beq ky
      have ez := eq_of_beq kz
      rw [l.sc] at ex ey ez
      have nn : ∀ {a b : Nat}, (!(a == b)) = true → a ≠ b := fun h z => by rw [z] at h; simp at h
      have oo := o.cons.2.cons.2.cons.2
      refine w1_par3 i j k ((sndV a _ Γ C S _ ρ _ l g oo.l h4 q).mono fun t ρ1 q => (sndV b _ Γ C S _ ρ1 _ l g oo.r.l h5 q).mono fun t ρ2 q => sndV c _ Γ C S _ ρ2 _ l g oo.r.r h5' q) (own1_of l h1 o.cons.1) (own1_of l h2 o.cons.2.cons.1) (own1_of l h2' o.cons.2.cons.2.cons.1) (nn h3) (nn h3') (nn h3'') ex ey ez
        (fun env he => sw_some3 (by rw [he, ← l.sc]; exact isFn_of k1) (by rw [he]; exact ex) (by rw [he]; exact ey) (by rw [he]; exact ez) ((Bool.not_eq_true' _).mp k3) ((Bool.not_eq_true' _).mp k3') ((Bool.not_eq_true' _).mp k3'') (eq_of_beq k4) (eq_of_beq k4') h6 h7 h7' ((Bool.not_eq_true' _).mp k5) ((Bool.not_eq_true' _).mp k6))
        (fun env => rfl) ⟨fun env => star_of h6 [w, u] env, fun env => star_of h7 [u] env, fun env => star_of h7' [] env, trivial⟩
    · cases h
  | .st0 U, Γ, C, S, s, ρ, R, l, g, o, h, q => by
    unfold ok1 at h
    unfold wp1 at q
    exact U.snd l g h q
  | .stm U es, Γ, C, S, s, ρ, R, l, g, o, h, q => by
    unfold ok1 at h; split at h
    · unfold wp1 at q
      exact U.snd l g (by assumption) (sndL es _ Γ C S _ ρ _ l g o h q)
    · cases h
  | .never, Γ, C, S, s, ρ, R, l, g, o, h, q => by
    unfold wp1 at q; exact q.elim
  | .ret e, Γ, C, S, s, ρ, R, l, g, o, h, q => by
    unfold ok1 at h; split at h
    · unfold wp1 at q
      exact w1_ret (sndV e _ Γ C S _ ρ _ l g o h q)
    · cases h
  | .retN, Γ, C, S, s, ρ, R, l, g, o, h, q => by
    unfold ok1 at h; split at h
    · unfold wp1 at q; exact w1_retN q
    · cases h
  | .expr e, Γ, C, S, s, ρ, R, l, g, o, h, q => by
    unfold ok1 at h; split at h
    · rw [Bool.and_eq_true] at h
      unfold wp1 at q
      exact w1_expr (sndV e _ Γ C S _ ρ _ l g o h.1 q) fun env => sw_notLc h.2 _ _ env
    · cases h
  | .pass, Γ, C, S, s, ρ, R, l, g, o, h, q => by
    unfold ok1 at h; split at h
    · unfold wp1 at q; exact w1_pass q
    · cases h
  | .brk, Γ, C, S, s, ρ, R, l, g, o, h, q => by
    unfold ok1 at h; split at h
    · unfold wp1 at q; exact w1_break q
    · cases h
  | .ct, Γ, C, S, s, ρ, R, l, g, o, h, q => by
    unfold ok1 at h; split at h
    · unfold wp1 at q; exact w1_continue q
    · cases h
theorem sndS : ∀ (c : CSs) (Γ : Gam) (C : Ctx) (S : Sta) (s : List Stmt) (ρ : Rho) (R : Out → Prop), Lk C S → Γ.Ok S → Off S c.owns → okS C c s = true → wpS Γ c ρ R → WS S s ρ R
  | .nil, Γ, C, S, s, ρ, R, l, g, o, h, q => by
    unfold okS at h
    rw [List.isEmpty_iff.mp h]
    unfold wpS at q
    exact ws_nil q
  | .cons c cs, Γ, C, S, s, ρ, R, l, g, o, h, q => by
    unfold okS at h; split at h
    · rw [Bool.and_eq_true] at h
      unfold wpS at q
      exact ws_cons ((snd1 c Γ C S _ ρ _ l g o.l h.1 q).mono fun out q => match out, q with
        | .nx ρ1, q => sndS cs Γ C S _ ρ1 R l g o.r h.2 q
        | .rt _ _, q => q
        | .bk _, q => q
        | .ct _, q => q)
    · cases h
  | .two U cs, Γ, C, S, s, ρ, R, l, g, o, h, q => by
    unfold okS at h; split at h
    · rw [Bool.and_eq_true] at h
      unfold wpS at q
      exact U.snd l g o.l h.1 (fun out q => match out, q with
        | .nx ρ1, q => sndS cs Γ C S _ ρ1 R l g o.r h.2 q
        | .rt _ _, q => q
        | .bk _, q => q
        | .ct _, q => q) q
    · cases h
end
end Oak
namespace Oak
open PySem PySem.Spec PyProof.Rows L2
open Tee (Dd DdAll ScrL SysAt Wd Od KD Stp Gok)
def gamOf (tbl : List (Str × Wp)) (cts : List (Str × Int)) (exs : List (Str × Addr)) (E : Value → XF → Rho → Prop) : Gam := ⟨fun x => tbl.lookup x, fun x => cts.lookup x, E, fun x => exs.lookup x⟩
theorem lookup_mem {α : Type} : ∀ {l : List (Str × α)} {x : Str} {a : α}, l.lookup x = some a → (x, a) ∈ l
  | [], _, _, h => by cases h
  | (y, b) :: l, x, a, h => by
    rw [List.lookup_cons] at h
    split at h
    · rename_i e
      cases h
      rw [eq_of_beq e]
      exact List.mem_cons_self
    · exact List.mem_cons_of_mem _ (lookup_mem h)
structure Known (S : Sta) (k : Nat) (tbl : List (Str × Wp)) (cts : List (Str × Int)) (exs : List (Str × Addr)) : Prop where
  fn : ∀ p ∈ tbl, ∃ j, j ≤ k ∧ Has S p.1 j p.2
  ct : ∀ p ∈ cts, ∃ t, S.mg p.1 = some (.int p.2 t)
  blt : Blt S
  ex : ∀ p ∈ exs, ExC S p.1 p.2
theorem Known.ok {S S' : Sta} {k : Nat} {tbl : List (Str × Wp)} {cts : List (Str × Int)} {exs : List (Str × Addr)} (h : Known S k tbl cts exs) (hP : S'.P = S.P) (hw : S'.w = S.w) (hK : S'.K = S.K) (hm : S'.mg = S.mg) (hb : S'.base = S.base) (hk : S'.k = k) : (gamOf tbl cts exs S'.E).Ok S' := by
  obtain ⟨P, w, K, mg, base, N, sc, fn, k', fxs, E⟩ := S'
  obtain ⟨P2, w2, K2, mg2, base2, N2, sc2, fn2, k2, fxs2, E2⟩ := S
  cases hP
  cases hw
  cases hK
  cases hm
  cases hb
  cases hk
  exact ⟨fun x W e => let ⟨j, h1, h2⟩ := h.fn _ (lookup_mem e); ⟨j, h1, ⟨h2.ex⟩⟩, fun x i e => h.ct _ (lookup_mem e), h.blt, rfl, fun x C e => let z := h.ex _ (lookup_mem e); ⟨z.mg, z.q, z.k, z.b, z.t⟩⟩
theorem has_vc {S : Sta} {x qual : Str} {st : Stmt} {f : Addr} {fd : FuncData} {N ps : List Str} {k : Nat} {W : Wp} {C : Ctx} {ir : CSs} {tbl : List (Str × Wp)} {cts : List (Str × Int)} {exs : List (Str × Addr)} (F : Fun S.K x qual st f fd) (hm : S.mg x = some (.ref f)) (b : Binds S.K fd ps []) (Sc : FnScope N ps (defScope st)) (sys : SysAt S.base)
    (ok : okS C ir (defBody st) = true) (hN : C.N = N) (hsc : C.sc = defScope st) (hblk : C.blk = none) (kn : Known S k tbl cts exs)
    (hlen : ∀ as Q E, W as Q E → as.length = ps.length) (off : ∀ as Q E, W as Q E → ∀ j ∈ ir.owns, j ∉ fxsOf 0 as)
    (vc : ∀ as Q E, W as Q E → wpS (gamOf tbl cts exs (endE as E)) ir (qd0 N as) (endW as Q)) : Has S x (k + 1) W :=
  has_fun W F hm b Sc sys hlen fun as Q E h => sndS ir (gamOf tbl cts exs (endE as E)) C _ _ _ _ ⟨hN, hsc, fun _ _ => rfl⟩ (kn.ok (S' := ⟨S.P, S.w, S.K, S.mg, S.base, N, defScope st, fun _ => true, k, fxsOf 0 as, endE as E⟩) rfl rfl rfl rfl rfl rfl) (off as Q E h) ok (vc as Q E h)
end Oak
namespace Oak
open PySem PySem.Spec PyProof.Rows L2
open Tee (CmpD upTo tyName zipD cutD)
section
variable {α : Type} {ρ : Rho} {Q : T → Rho → Prop} {Qb : Bool → Prop}
theorem view_tmp (t : T) (ρ : Rho) : (Opd.tmp t).view ρ = toD t := rfl
theorem view_var (i : Nat) (ρ : Rho) : (Opd.var i).view ρ = ((ρ[i]?).join).bind toD := rfl
theorem tree_tmp (t : T) (ρ : Rho) : (Opd.tmp t).tree ρ = some t := rfl
theorem tree_var (i : Nat) (ρ : Rho) : (Opd.var i).tree ρ = (ρ[i]?).join := rfl
theorem lst_tmp (t : T) (ρ : Rho) : (Opd.tmp t).lst ρ = lstOf t := rfl
theorem lst_var (i : Nat) (ρ : Rho) : (Opd.var i).lst ρ = ((ρ[i]?).join).bind lstOf := rfl
theorem tup_tmp (t : T) (ρ : Rho) : (Opd.tmp t).tup ρ = tupOf t := rfl
theorem tup_var (i : Nat) (ρ : Rho) : (Opd.var i).tup ρ = ((ρ[i]?).join).bind tupOf := rfl
theorem toD_sh (d : PyData) : toD (.sh d) = some d := rfl
theorem toD_shs (ds : List PyData) : toD (.lst (ds.map .sh)) = some (.list ds) := by show (toDs _).map _ = _; rw [toDs_sh]; rfl
theorem toD_shsT (ds : List PyData) : toD (.tup (ds.map .sh)) = some (.tuple ds) := by show (toDs _).map _ = _; rw [toDs_sh]; rfl
theorem toD_lst (ts : List T) : toD (.lst ts) = (toDs ts).map .list := by unfold toD; rfl
theorem toD_tup (ts : List T) : toD (.tup ts) = (toDs ts).map .tuple := by unfold toD; rfl
theorem toD_lnil : toD (.lst []) = some (.list []) := rfl
theorem shs_nil' : shs [] = some [] := rfl
theorem toD_scr (ns : List Int) : toD (.scr ns) = none := rfl
theorem toDs_nil : toDs [] = some [] := rfl
theorem toDs_cons (t : T) (ts : List T) : toDs (t :: ts) = (toD t).bind fun d => (toDs ts).map (d :: ·) := by
  conv => lhs; unfold toDs
  cases toD t with
  | none => rfl
  | some d =>
    cases toDs ts with
    | none => rfl
    | some ds => rfl
theorem lstOf_shL (ds : List PyData) : lstOf (.sh (.list ds)) = some ds := rfl
theorem lstOf_lst (ts : List T) : lstOf (.lst ts) = shs ts := rfl
theorem tupOf_shT (ds : List PyData) : tupOf (.sh (.tuple ds)) = some ds := rfl
theorem tupOf_tup (ts : List T) : tupOf (.tup ts) = shs ts := rfl
theorem lstOf_int (i : Int) : lstOf (.sh (.int i)) = none := rfl
theorem tupOf_int (i : Int) : tupOf (.sh (.int i)) = none := rfl
theorem lstOf_tupD (ds : List PyData) : lstOf (.sh (.tuple ds)) = none := rfl
theorem tupOf_lstD (ds : List PyData) : tupOf (.sh (.list ds)) = none := rfl
theorem lstOf_tup (ts : List T) : lstOf (.tup ts) = none := rfl
theorem tupOf_lst (ts : List T) : tupOf (.lst ts) = none := rfl
theorem lstOf_str (s : Str) : lstOf (.sh (.str s)) = none := rfl
theorem tupOf_str (s : Str) : tupOf (.sh (.str s)) = none := rfl
theorem shs_cons (d : PyData) (ts : List T) : shs (.sh d :: ts) = (shs ts).map (d :: ·) := rfl
theorem callL {o : Option Wp} {W : Wp} (h : o = some W) (A : (List Arg → Rho → Prop) → Prop) (Q : T → Rho → Prop) (E : Value → XF → Rho → Prop) : callP o A Q E = A fun as ρ1 => callW W as ρ1 Q E := by rw [h]; rfl
theorem ctL {o : Option Int} {i : Int} (h : o = some i) (ρ : Rho) (Q : T → Rho → Prop) : ctP o ρ Q = Q (.sh (.int i)) ρ := by rw [h]; rfl
theorem uRepr_wp o ρ Q : uRepr.wp o ρ Q = (∃ d : PyData, o.view ρ = some d ∧ ((∃ xs, d = .list xs) ∨ (∃ xs, d = .tuple xs)) ∧ d.showable = true ∧ d.depth ≤ 60 ∧ d.shown.length ≤ sizeLine ∧ Q (.sh (.str d.shown)) ρ) := rfl
theorem uRepr_pl : uRepr.pl = true := rfl
theorem uList_wp o ρ Q : uList.wp o ρ Q = (∃ ds, (qf0 o ρ ds ∨ qh0 o ρ ds) ∧ Q (.lst (ds.map .sh)) ρ) := rfl
theorem uList_pl : uList.pl = true := rfl
theorem uTuple_wp o ρ Q : uTuple.wp o ρ Q = (∃ ds, qf0 o ρ ds ∧ Q (.tup (ds.map .sh)) ρ) := rfl
theorem uTuple_pl : uTuple.pl = true := rfl
theorem uSorted_wp o ρ Q : uSorted.wp o ρ Q = (∃ ns : List Int, o.view ρ = some (.list (ns.map .int)) ∧ ∀ ns' : List Int, ns'.Perm ns → ns'.Pairwise (· ≤ ·) → Q (.lst ((ns'.map PyData.int).map .sh)) ρ) := rfl
theorem uSorted_pl : uSorted.pl = true := rfl
theorem uAbs_wp o ρ Q : uAbs.wp o ρ Q = (∃ i, o.view ρ = some (.int i) ∧ Q (.sh (.int (if i < 0 then -i else i))) ρ) := rfl
theorem uAbs_pl : uAbs.pl = true := rfl
theorem uRev_wp o ρ Q : uRev.wp o ρ Q = (∃ ds, qf0 o ρ ds ∧ Q (.lst (ds.reverse.map .sh)) ρ) := rfl
theorem uRev_pl : uRev.pl = true := rfl
theorem uIsSeq_wp o ρ Q : uIsSeq.wp o ρ Q = (∃ d k k', o.view ρ = some d ∧ kitB (tyName d) "list" = some k ∧ kitB (tyName d) "tuple" = some k' ∧ Q (.sh (.bool (k || k'))) ρ) := rfl
theorem uIsSeq_pl : uIsSeq.pl = true := rfl
theorem bTo_wp oa ob ρ Q : bTo.wp oa ob ρ Q = (∃ j, ob.view ρ = some (.int j) ∧ SlO oa none (some j) ρ Q) := rfl
theorem bTo_pre x0 x1 : bTo.pre x0 x1 = (True) := rfl
theorem bFrom_wp oa ob ρ Q : bFrom.wp oa ob ρ Q = (∃ j, ob.view ρ = some (.int j) ∧ SlO oa (some j) none ρ Q) := rfl
theorem bFrom_pre x0 x1 : bFrom.pre x0 x1 = (True) := rfl
theorem iZip_wp ts ρ Q : iZip.wp ts ρ Q = (∃ xs ys, (ts.map toD = [some (.list xs), some (.list ys)] ∨ ts.map toD = [some (.tuple xs), some (.tuple ys)]) ∧ Q (zipD xs ys) ρ) := rfl
theorem bCount_wp oa ob ρ Q : bCount.wp oa ob ρ Q = (∃ (ns : List Int) (k : Int), oa.view ρ = some (.list (ns.map .int)) ∧ ob.view ρ = some (.int k) ∧ Q (.sh (.int (ns.count k : Nat))) ρ) := rfl
theorem bCount_pre o ρ : bCount.pre o ρ = (∃ ds, o.view ρ = some (.list ds)) := rfl
theorem bIndex_wp oa ob ρ Q : bIndex.wp oa ob ρ Q = (∃ (ns : List Int) (n : Int) (j : Nat), oa.view ρ = some (.list (ns.map .int)) ∧ ob.view ρ = some (.int n) ∧ ns[j]? = some n ∧ (∀ m z, m < j → ns[m]? = some z → z ≠ n) ∧ Q (.sh (.int (j : Nat))) ρ) := rfl
theorem bIndex_pre o ρ : bIndex.pre o ρ = (∃ ds, o.view ρ = some (.list ds)) := rfl
theorem bDivmod_wp oa ob ρ Q : bDivmod.wp oa ob ρ Q = (∃ i j, oa.view ρ = some (.int i) ∧ ob.view ρ = some (.int j) ∧ CDiv i j ∧ Q (.tup [.sh (.int (i / j)), .sh (.int (i % j))]) ρ) := rfl
theorem bDivmod_pre x0 x1 : bDivmod.pre x0 x1 = (True) := rfl
theorem iRange2_wp ts ρ Q : iRange2.wp ts ρ Q = (∃ i j : Int, ts = [.sh (.int i), .sh (.int j)] ∧ (-(2 ^ 62) ≤ i ∧ i < 2 ^ 62 ∧ -(2 ^ 62) ≤ j ∧ j < 2 ^ 62) ∧ Q (steps i 1 (j - i).toNat) ρ) := rfl
theorem iRange3_wp ts ρ Q : iRange3.wp ts ρ Q = (∃ (i j d : Int) (n : Nat), ts = [.sh (.int i), .sh (.int j), .sh (.int d)] ∧ RgC i j d n ∧ Q (steps i d n) ρ) := rfl
theorem bGetD_pre x0 x1 : bGetD.pre x0 x1 = (True) := rfl
theorem uListRange_wp o ρ Q : uListRange.wp o ρ Q = (∃ j : Int, o.view ρ = some (.int j) ∧ RgOk 0 j ∧ Q (.lst ((steps 0 1 j.toNat).map .sh)) ρ) := rfl
theorem uListRange_pl : uListRange.pl = true := rfl
theorem bListRange_wp oa ob ρ Q : bListRange.wp oa ob ρ Q = (∃ i j : Int, oa.view ρ = some (.int i) ∧ ob.view ρ = some (.int j) ∧ RgOk i j ∧ Q (.lst ((steps i 1 (j - i).toNat).map .sh)) ρ) := rfl
theorem bListRange_pre x0 x1 : bListRange.pre x0 x1 = (True) := rfl
theorem sRaise_wp (y : Str) Γ ρ x2 : (sRaise y).wp Γ ρ x2 = (∃ C, Γ.ex y = some C ∧ Γ.E (.ref C) none ρ) := rfl
theorem nDict0_wp x0 ρ Q : nDict0.wp x0 ρ Q = (Q (.dct [] []) ρ) := rfl
theorem nDict0_pl : nDict0.pl = false := rfl
theorem iZipS_wp ts ρ Q : iZipS.wp ts ρ Q = (∃ t1 t2 xs ys, ts = [t1, t2] ∧ SeqD t1 xs ∧ SeqD t2 ys ∧ Q (zipD xs ys) ρ) := rfl
theorem iZip3_wp ts ρ Q : iZip3.wp ts ρ Q = (∃ t1 t2 t3 xs ys zs, ts = [t1, t2, t3] ∧ SeqD t1 xs ∧ SeqD t2 ys ∧ SeqD t3 zs ∧ Q (zip3D xs ys zs) ρ) := rfl
theorem iEnumL_wp ts ρ Q : iEnumL.wp ts ρ Q = (∃ t1 xs, ts = [t1] ∧ toD t1 = some (.list xs) ∧ Q (enumD xs) ρ) := rfl
theorem uSumT_wp o ρ Q : uSumT.wp o ρ Q = (∃ ns : List Int, o.view ρ = some (.tuple (ns.map .int)) ∧ Q (.sh (.int ns.sum)) ρ) := rfl
theorem uSumT_pl : uSumT.pl = true := rfl
theorem tListStar_wp x0 t1 t2 t3 ρ Q : tListStar.wp x0 t1 t2 t3 ρ Q = (∃ ds, SeqD t2 ds ∧ ds.length + 2 ≤ sizeLine ∧ Q (.lst (t1 :: (ds.map .sh ++ [t3]))) ρ) := rfl
theorem tListStar_pre x0 t2 : tListStar.pre x0 t2 = (∃ ds, SeqD t2 ds) := rfl
theorem uLen_wp o ρ Q : uLen.wp o ρ Q = (∃ t, o.tree ρ = some t ∧ LenT t fun n => Q (.sh (.int n)) ρ) := rfl
theorem uLen_pl : uLen.pl = true := rfl
theorem uIsInt_wp (o : Opd) (ρ : Rho) (Q : T → Rho → Prop) : uIsInt.wp o ρ Q = ∃ d k, o.view ρ = some d ∧ kitB (tyName d) "int" = some k ∧ Q (.sh (.bool k)) ρ := rfl
theorem uIsInt_pl : uIsInt.pl = true := rfl
theorem uIsBool_wp (o : Opd) (ρ : Rho) (Q : T → Rho → Prop) : uIsBool.wp o ρ Q = ∃ d k, o.view ρ = some d ∧ kitB (tyName d) "bool" = some k ∧ Q (.sh (.bool k)) ρ := rfl
theorem uIsBool_pl : uIsBool.pl = true := rfl
theorem uIsStr_wp (o : Opd) (ρ : Rho) (Q : T → Rho → Prop) : uIsStr.wp o ρ Q = ∃ d k, o.view ρ = some d ∧ kitB (tyName d) "str" = some k ∧ Q (.sh (.bool k)) ρ := rfl
theorem uIsStr_pl : uIsStr.pl = true := rfl
theorem uIsList_wp (o : Opd) (ρ : Rho) (Q : T → Rho → Prop) : uIsList.wp o ρ Q = ∃ d k, o.view ρ = some d ∧ kitB (tyName d) "list" = some k ∧ Q (.sh (.bool k)) ρ := rfl
theorem uIsList_pl : uIsList.pl = true := rfl
theorem uIsTuple_wp (o : Opd) (ρ : Rho) (Q : T → Rho → Prop) : uIsTuple.wp o ρ Q = ∃ d k, o.view ρ = some d ∧ kitB (tyName d) "tuple" = some k ∧ Q (.sh (.bool k)) ρ := rfl
theorem uIsTuple_pl : uIsTuple.pl = true := rfl
theorem bGetD_wp (oa ob : Opd) (ρ : Rho) (Q : T → Rho → Prop) : bGetD.wp oa ob ρ Q = GetD oa ob ρ Q := rfl
theorem cmpX_eqI (i j : Int) (Q : Bool → Prop) : CmpX .Eq (.int i) (.int j) Q = Q (decide (i = j)) := by
  show (SeqAt.shaped (.int i) = true ∧ SeqAt.shaped (.int j) = true ∧ Q (PyData.eqv (.int i) (.int j))) = _
  have e : PyData.eqv (.int i) (.int j) = decide (i = j) := by show (i == j) = _; by_cases h : i = j <;> simp [h]
  rw [e]
  exact propext ⟨fun h => h.2.2, fun h => ⟨rfl, rfl, h⟩⟩
theorem cmpX_neI (i j : Int) (Q : Bool → Prop) : CmpX .NotEq (.int i) (.int j) Q = Q (decide (i ≠ j)) := by
  show (SeqAt.shaped (.int i) = true ∧ SeqAt.shaped (.int j) = true ∧ Q (!PyData.eqv (.int i) (.int j))) = _
  have e : (!PyData.eqv (.int i) (.int j)) = decide (i ≠ j) := by show (!(i == j)) = _; by_cases h : i = j <;> simp [h]
  rw [e]
  exact propext ⟨fun h => h.2.2, fun h => ⟨rfl, rfl, h⟩⟩
theorem cmpX_lt (i j : Int) (Q : Bool → Prop) : CmpX .Lt (.int i) (.int j) Q = Q (decide (i < j)) := rfl
theorem cmpX_le (i j : Int) (Q : Bool → Prop) : CmpX .LtE (.int i) (.int j) Q = Q (decide (i ≤ j)) := rfl
theorem cmpX_gt (i j : Int) (Q : Bool → Prop) : CmpX .Gt (.int i) (.int j) Q = Q (decide (j < i)) := rfl
theorem cmpX_ge (i j : Int) (Q : Bool → Prop) : CmpX .GtE (.int i) (.int j) Q = Q (decide (j ≤ i)) := rfl
theorem cmpX_eqS (i j : Str) (Q : Bool → Prop) : CmpX .Eq (.str i) (.str j) Q = Q (decide (i = j)) := rfl
theorem cmpX_neS (i j : Str) (Q : Bool → Prop) : CmpX .NotEq (.str i) (.str j) Q = Q (!decide (i = j)) := rfl
theorem cmpX_isN (d : PyData) (Q : Bool → Prop) : CmpX .Is d .none Q = Q (Tee.isNone d) := by cases d <;> rfl
theorem cmpX_notN (d : PyData) (Q : Bool → Prop) : CmpX .IsNot d .none Q = Q (!Tee.isNone d) := by cases d <;> rfl
theorem cmpX_isB (i j : Bool) (Q : Bool → Prop) : CmpX .Is (.bool i) (.bool j) Q = Q (decide (i = j)) := rfl
end
mutual
def plD : PyData → Bool
  | .none => true
  | .int _ => true
  | .str s => PyData.strOk s
  | .list xs => plDs xs
  | .tuple xs => plDs xs
  | _ => false
def plDs : List PyData → Bool
  | [] => true
  | x :: xs => plD x && plDs xs
end
theorem plDs_iff : ∀ {xs : List PyData}, plDs xs = true ↔ ∀ x ∈ xs, plD x = true
  | [] => by simp [plDs]
  | x :: xs => by rw [plDs, Bool.and_eq_true, plDs_iff]; simp
mutual
theorem plD_lay : ∀ (d : PyData), plD d = true → d.canLay0 = true
  | .none, h => rfl
  | .int _, h => rfl
  | .str s, h => h
  | .list xs, h => plDs_lay xs h
  | .tuple xs, h => plDs_lay xs h
  | .bool _, h => by cases h
  | .dict _, h => by cases h
theorem plDs_lay : ∀ (xs : List PyData), plDs xs = true → PyData.canLayAll0 xs = true
  | [], h => rfl
  | x :: xs, h => by
    rw [plDs, Bool.and_eq_true] at h
    rw [PyData.canLayAll0, plD_lay x h.1, plDs_lay xs h.2]
    rfl
end
theorem shaped_of {d : PyData} (h : plD d = true) (hd : d.depth ≤ 64) : SeqAt.shaped d = true := by
  unfold SeqAt.shaped
  rw [plD_lay d h, decide_eq_true hd]
  rfl
mutual
theorem plD_eqv : ∀ (d e : PyData), plD d = true → plD e = true → (PyData.eqv d e = true ↔ d = e)
  | .none, e, h, h' => by cases e <;> first | (simp [PyData.eqv]; done) | cases h'
  | .int i, e, h, h' => by cases e <;> first | (simp [PyData.eqv]; done) | cases h'
  | .str s, e, h, h' => by cases e <;> first | (simp [PyData.eqv]; done) | cases h'
  | .list xs, e, h, h' => by
    cases e with
    | list ys => simpa [PyData.eqv] using plDs_eqv xs ys h h'
    | bool _ => cases h'
    | dict _ => cases h'
    | _ => simp [PyData.eqv]
  | .tuple xs, e, h, h' => by
    cases e with
    | tuple ys => simpa [PyData.eqv] using plDs_eqv xs ys h h'
    | bool _ => cases h'
    | dict _ => cases h'
    | _ => simp [PyData.eqv]
  | .bool _, _, h, _ => by cases h
  | .dict _, _, h, _ => by cases h
theorem plDs_eqv : ∀ (xs ys : List PyData), plDs xs = true → plDs ys = true → (PyData.eqvAll xs ys = true ↔ xs = ys)
  | [], [], _, _ => by simp [PyData.eqvAll]
  | [], _ :: _, _, _ => by simp [PyData.eqvAll]
  | _ :: _, [], _, _ => by simp [PyData.eqvAll]
  | x :: xs, y :: ys, h, h' => by
    rw [plDs, Bool.and_eq_true] at h h'
    rw [PyData.eqvAll, Bool.and_eq_true, plD_eqv x y h.1 h'.1, plDs_eqv xs ys h.2 h'.2]
    simp
end
open Classical in
theorem eqv_dec {d e : PyData} (h : plD d = true) (h' : plD e = true) : PyData.eqv d e = decide (d = e) := by
  by_cases q : d = e
  · rw [decide_eq_true q]; exact (plD_eqv d e h h').mpr q
  · rw [decide_eq_false q]
    cases z : PyData.eqv d e with
    | false => rfl
    | true => exact absurd ((plD_eqv d e h h').mp z) q
open Classical in
theorem cmpX_eqP {d e : PyData} (Q : Bool → Prop) (h : plD d = true) (h' : plD e = true) (hd : d.depth ≤ 64) (he : e.depth ≤ 64) : CmpX .Eq d e Q = Q (decide (d = e)) := by
  have gen : (SeqAt.shaped d = true ∧ SeqAt.shaped e = true ∧ Q (PyData.eqv d e)) = Q (decide (d = e)) := by
    rw [eqv_dec h h', shaped_of h hd, shaped_of h' he]
    simp
  cases d <;> cases e <;> first
    | exact gen
    | (show Q _ = _; simp)
open Classical in
theorem cmpX_neP {d e : PyData} (Q : Bool → Prop) (h : plD d = true) (h' : plD e = true) (hd : d.depth ≤ 64) (he : e.depth ≤ 64) : CmpX .NotEq d e Q = Q (!decide (d = e)) := by
  have gen : (SeqAt.shaped d = true ∧ SeqAt.shaped e = true ∧ Q (!PyData.eqv d e)) = Q (!decide (d = e)) := by
    rw [eqv_dec h h', shaped_of h hd, shaped_of h' he]
    simp
  cases d <;> cases e <;> first
    | exact gen
    | (show Q _ = _; simp)
def turnO (K : Rho → Prop) (R : Out → Prop) : Out → Prop
  | .nx ρ => K ρ
  | .ct ρ => K ρ
  | .bk ρ => R (.nx ρ)
  | .rt t ρ => R (.rt t ρ)
theorem turn_nx (K : Rho → Prop) (R : Out → Prop) (ρ : Rho) : turnO K R (.nx ρ) = K ρ := rfl
theorem turn_ct (K : Rho → Prop) (R : Out → Prop) (ρ : Rho) : turnO K R (.ct ρ) = K ρ := rfl
theorem turn_bk (K : Rho → Prop) (R : Out → Prop) (ρ : Rho) : turnO K R (.bk ρ) = R (.nx ρ) := rfl
theorem turn_rt (K : Rho → Prop) (R : Out → Prop) (t : T) (ρ : Rho) : turnO K R (.rt t ρ) = R (.rt t ρ) := rfl
theorem goFor_cons {tg : PyData → Rho → (Rho → Prop) → Prop} {body : Rho → (Out → Prop) → Prop} {R : Out → Prop} {d : PyData} {ds : List PyData} {ρ : Rho} : goFor tg body R (d :: ds) ρ = tg d ρ fun ρ1 => body ρ1 (turnO (goFor tg body R ds) R) := by
  show (tg d ρ fun ρ1 => body ρ1 _) = _
  congr
theorem goFor_ind {tg : PyData → Rho → (Rho → Prop) → Prop} {body : Rho → (Out → Prop) → Prop} {R : Out → Prop} (I : List PyData → Rho → Prop)
    (step : ∀ d ds ρ, I (d :: ds) ρ → ∀ K : Rho → Prop, (∀ ρ2, I ds ρ2 → K ρ2) → tg d ρ fun ρ1 => body ρ1 (turnO K R))
    (fin : ∀ ρ, I [] ρ → R (.nx ρ)) : ∀ (ds : List PyData) (ρ : Rho), I ds ρ → goFor tg body R ds ρ
  | [], ρ, h => fin ρ h
  | d :: ds, ρ, h => by
    rw [goFor_cons]
    exact step d ds ρ h _ fun ρ2 h2 => goFor_ind I step fin ds ρ2 h2
theorem goLc_ind {tg : PyData → Rho → (Rho → Prop) → Prop} {test : Rho → (Bool → Rho → Prop) → Prop} {el : Rho → (T → Rho → Prop) → Prop} {vs : List Nat} {Q : List T → Rho → Prop} (I : List PyData → List T → Rho → Prop)
    (step : ∀ d ds acc ρ, I (d :: ds) acc ρ → ∀ K : List T → Rho → Prop, (∀ acc2 ρ2, I ds acc2 ρ2 → K acc2 ρ2) → tg d ρ fun ρ1 => test ρ1 fun k ρ2 => (k = true → el ρ2 fun t ρ3 => K (acc ++ [t]) (wipeR ρ3 vs)) ∧ (k = false → K acc (wipeR ρ2 vs)))
    (fin : ∀ acc ρ, I [] acc ρ → Q acc ρ) : ∀ (ds : List PyData) (acc : List T) (ρ : Rho), I ds acc ρ → goLc tg test el vs Q ds acc ρ
  | [], acc, ρ, h => fin acc ρ h
  | d :: ds, acc, ρ, h => step d ds acc ρ h _ fun acc2 ρ2 h2 => goLc_ind I step fin ds acc2 ρ2 h2
theorem wpTg_name (i : Nat) (d : PyData) (ρ : Rho) (k : Rho → Prop) : wpTg (.name i) d ρ k = k (ρ.set i (some (.sh d))) := by simp only [wpTg]
theorem endW_rt (as : List T) (Q : T → List T → Prop) (t : T) (ρ : Rho) : endW as Q (.rt t ρ) = ∃ as', finR ρ 0 as = some as' ∧ Q t as' := rfl
theorem endW_nx (as : List T) (Q : T → List T → Prop) (ρ : Rho) : endW as Q (.nx ρ) = ∃ as', finR ρ 0 as = some as' ∧ Q (.sh .none) as' := rfl
theorem atom_int (i : Int) : atom (.int i) = true := rfl
theorem atom_bool (i : Bool) : atom (.bool i) = true := rfl
theorem atom_str (i : Str) : atom (.str i) = true := rfl
theorem atom_none : atom .none = true := rfl
theorem seqT_shL (ds : List PyData) : seqT (.sh (.list ds)) = some (ds.map .sh) := rfl
theorem seqT_shT (ds : List PyData) : seqT (.sh (.tuple ds)) = some (ds.map .sh) := rfl
theorem seqT_lst (ts : List T) : seqT (.lst ts) = some ts := rfl
theorem seqT_tup (ts : List T) : seqT (.tup ts) = some ts := rfl
theorem atI_map {α β : Type} (f : α → β) (xs : List α) (i : Int) : atI (xs.map f) i = (atI xs i).map f := by
  unfold atI
  rw [List.length_map]
  cases ixN xs.length i with
  | none => rfl
  | some j => simp
theorem atI_pos {α : Type} {ns : List α} {i : Int} (h0 : 0 ≤ i) : atI ns i = ns[i.toNat]? := by
  unfold atI ixN
  rw [if_pos h0]
  split
  · rfl
  · rw [List.getElem?_eq_none (by omega)]; rfl
theorem atI_c0 {α : Type} (x : α) (xs : List α) : atI (x :: xs) 0 = some x := by rw [atI_pos (by decide)]; rfl
theorem atI_c1 {α : Type} (x y : α) (xs : List α) : atI (x :: y :: xs) 1 = some y := by rw [atI_pos (by decide)]; rfl
theorem atI_c2 {α : Type} (x y z : α) (xs : List α) : atI (x :: y :: z :: xs) 2 = some z := by rw [atI_pos (by decide)]; rfl
theorem lenT_shL (ds : List PyData) (Q : Int → Prop) : LenT (.sh (.list ds)) Q = Q (ds.length : Nat) := by simp [LenT, seqT]
theorem lenT_shT (ds : List PyData) (Q : Int → Prop) : LenT (.sh (.tuple ds)) Q = Q (ds.length : Nat) := by simp [LenT, seqT]
theorem lenT_lst (ts : List T) (Q : Int → Prop) : LenT (.lst ts) Q = Q (ts.length : Nat) := by simp [LenT, seqT]
theorem lenT_tup (ts : List T) (Q : Int → Prop) : LenT (.tup ts) Q = Q (ts.length : Nat) := by simp [LenT, seqT]
theorem lenT_scr (ns : List Int) (Q : Int → Prop) : LenT (.scr ns) Q = Q (ns.length : Nat) := by simp [LenT]
theorem lstOf_scr (ns : List Int) : lstOf (.scr ns) = none := rfl
theorem tupOf_scr (ns : List Int) : tupOf (.scr ns) = none := rfl
theorem lenT_str (s : Str) (Q : Int → Prop) : LenT (.sh (.str s)) Q = (s.length ≤ sizeLine ∧ Q (s.length : Nat)) := rfl
theorem intD_int (i : Int) (Q : PyData → Prop) : Tee.IntD (.int i) Q = Q (.int i) := rfl
theorem intD_bool (i : Bool) (Q : PyData → Prop) : Tee.IntD (.bool i) Q = Q (.int (if i then 1 else 0)) := rfl
theorem max2_int (i j : Int) (Q : PyData → Prop) : Tee.Max2D (.int i) (.int j) Q = Q (.int (if j > i then j else i)) := rfl
theorem min2_int (i j : Int) (Q : PyData → Prop) : Tee.Min2D (.int i) (.int j) Q = Q (.int (if j < i then j else i)) := rfl
theorem truO_bool (b : Bool) : TruO (.bool b) = some b := rfl
theorem truO_int (i : Int) : TruO (.int i) = some (i != 0) := rfl
theorem truO_list (xs : List PyData) : TruO (.list xs) = some (!xs.isEmpty) := rfl
theorem truO_tuple (xs : List PyData) : TruO (.tuple xs) = some (!xs.isEmpty) := rfl
theorem truO_none : TruO .none = some false := rfl
theorem isNone_int (i : Int) : Tee.isNone (.int i) = false := rfl
theorem isNone_none : Tee.isNone .none = true := rfl
theorem isNone_list (xs : List PyData) : Tee.isNone (.list xs) = false := rfl
theorem isNone_tuple (xs : List PyData) : Tee.isNone (.tuple xs) = false := rfl
theorem isNone_str (xs : Str) : Tee.isNone (.str xs) = false := rfl
theorem isNone_bool (xs : Bool) : Tee.isNone (.bool xs) = false := rfl
theorem map_int_inj {a b : List Int} : a.map PyData.int = b.map PyData.int ↔ a = b := by
  constructor
  · intro h
    have := congrArg (List.map fun d => match d with | PyData.int i => i | _ => 0) h
    simpa [List.map_map, Function.comp_def] using this
  · intro h; rw [h]
def nth (ns : List Int) (i : Int) : Int := ns.getD i.toNat 0
theorem atI_last {α : Type} {ns : List α} (h : ns ≠ []) : atI ns (-1) = ns.getLast? := by
  have hl : 0 < ns.length := List.length_pos_iff.mpr h
  unfold atI ixN
  rw [if_neg (by omega), if_pos (by omega), List.getLast?_eq_getElem?]
  show ns[_]? = _
  congr 1
  omega
theorem cut_to {ds : List PyData} {j : Int} (h0 : 0 ≤ j) : Tee.cutD ds none (some j) = ds.take j.toNat := by
  show (ds.drop 0).take ((if j < 0 then (j + (ds.length : Int)).toNat else min j.toNat ds.length) - 0) = _
  rw [if_neg (by omega), List.drop_zero, Nat.sub_zero]
  by_cases h : j.toNat ≤ ds.length
  · rw [Nat.min_eq_left h]
  · rw [Nat.min_eq_right (by omega), List.take_of_length_le (Nat.le_refl _), List.take_of_length_le (by omega)]
theorem cut_from {ds : List PyData} {j : Int} (h0 : 0 ≤ j) : Tee.cutD ds (some j) none = ds.drop j.toNat := by
  show (ds.drop (if j < 0 then (j + (ds.length : Int)).toNat else min j.toNat ds.length)).take (ds.length - (if j < 0 then (j + (ds.length : Int)).toNat else min j.toNat ds.length)) = _
  rw [if_neg (by omega), List.take_of_length_le (by rw [List.length_drop]; omega)]
  by_cases h : j.toNat ≤ ds.length
  · rw [Nat.min_eq_left h]
  · rw [Nat.min_eq_right (by omega), List.drop_eq_nil_of_le (Nat.le_refl _), List.drop_eq_nil_of_le (by omega)]
end Oak
namespace Oak
open PySem PySem.Spec PyProof.Rows L2
open Tee (CmpD tyName zipD)
theorem kit_int : ∀ d : PyData, kitB (tyName d) "int" = some (match d with | .int _ => true | .bool _ => true | _ => false) := by
  intro d; cases d <;> first | exact (by decide +kernel : kitB "NoneType" "int" = some false) | exact (by decide +kernel : kitB "bool" "int" = some true) | exact (by decide +kernel : kitB "int" "int" = some true) | exact (by decide +kernel : kitB "str" "int" = some false) | exact (by decide +kernel : kitB "list" "int" = some false) | exact (by decide +kernel : kitB "tuple" "int" = some false) | exact (by decide +kernel : kitB "dict" "int" = some false)
theorem kit_bool : ∀ d : PyData, kitB (tyName d) "bool" = some (match d with | .bool _ => true | _ => false) := by
  intro d; cases d <;> first | exact (by decide +kernel : kitB "NoneType" "bool" = some false) | exact (by decide +kernel : kitB "bool" "bool" = some true) | exact (by decide +kernel : kitB "int" "bool" = some false) | exact (by decide +kernel : kitB "str" "bool" = some false) | exact (by decide +kernel : kitB "list" "bool" = some false) | exact (by decide +kernel : kitB "tuple" "bool" = some false) | exact (by decide +kernel : kitB "dict" "bool" = some false)
theorem kit_list : ∀ d : PyData, kitB (tyName d) "list" = some (match d with | .list _ => true | _ => false) := by
  intro d; cases d <;> first | exact (by decide +kernel : kitB "NoneType" "list" = some false) | exact (by decide +kernel : kitB "bool" "list" = some false) | exact (by decide +kernel : kitB "int" "list" = some false) | exact (by decide +kernel : kitB "str" "list" = some false) | exact (by decide +kernel : kitB "list" "list" = some true) | exact (by decide +kernel : kitB "tuple" "list" = some false) | exact (by decide +kernel : kitB "dict" "list" = some false)
theorem kit_tuple : ∀ d : PyData, kitB (tyName d) "tuple" = some (match d with | .tuple _ => true | _ => false) := by
  intro d; cases d <;> first | exact (by decide +kernel : kitB "NoneType" "tuple" = some false) | exact (by decide +kernel : kitB "bool" "tuple" = some false) | exact (by decide +kernel : kitB "int" "tuple" = some false) | exact (by decide +kernel : kitB "str" "tuple" = some false) | exact (by decide +kernel : kitB "list" "tuple" = some false) | exact (by decide +kernel : kitB "tuple" "tuple" = some true) | exact (by decide +kernel : kitB "dict" "tuple" = some false)
def irIsIntegerBetween : CSs := (.cons (.ret (.and (.un uIsInt (.var 0)) (.and (.not (.un uIsBool (.var 0))) (.chain .LtE .LtE (.var 1) (.var 0) (.var 2))))) .nil)
def irIsListUpTo : CSs := (.cons (.ret (.and (.un uIsSeq (.var 0)) (.cmp .LtE (.un uLen (.var 0)) (.var 1)))) .nil)
def irIsPair : CSs := (.cons (.ret (.and (.un uIsSeq (.var 0)) (.cmp .Eq (.un uLen (.var 0)) (.int 2)))) .nil)
def eAreIntegersBetween0 : CE := (.call "is_integer_between" (.cons (.var 4) (.cons (.var 2) (.cons (.var 3) .nil))))
def irAreIntegersBetween : CSs := (.cons (.ret (.and (.call "is_list_up_to" (.cons (.var 0) (.cons (.var 1) .nil))) (.b1 .all (.lc eAreIntegersBetween0 (.name 4) (.seq (.var 0)) [("item", 4)])))) .nil)
def irRequireReaders : CSs := (.cons (.ife (.not (.call "is_integer_between" (.cons (.var 0) (.cons (.int 1) (.cons (.var 1) .nil))))) (.cons (.st0 (sRaise "InvalidReaders")) .nil) .nil) .nil)
def irIsRun : CSs := (.cons (.ret (.and (.call "is_pair" (.cons (.var 0) .nil)) (.and (.call "is_integer_between" (.cons (.ix (.var 0) (.int 0)) (.cons (.neg (.int 1)) (.cons (.int 1) .nil)))) (.call "is_integer_between" (.cons (.ix (.var 0) (.int 1)) (.cons (.int 1) (.cons (.glob "MOST_COUNT") .nil))))))) .nil)
def kIsRecord0 : CSs := (.cons (.ret (.bl true)) .nil)
def lIsRecord1 : CSs := (.cons (.ife (.or (.not (.call "is_run" (.cons (.var 2) .nil))) (.cmp .Eq (.ix (.var 2) (.int 0)) (.var 1))) (.cons (.ret (.bl false)) .nil) .nil) (.cons (.set 1 (.ix (.var 2) (.int 0))) .nil))
def irIsRecord : CSs := (.cons (.ife (.not (.call "is_list_up_to" (.cons (.var 0) (.cons (.glob "MOST_ITEMS") .nil)))) (.cons (.ret (.bl false)) .nil) .nil) (.cons (.set 1 .non) (.cons (.loop (.name 2) (.seq (.var 0)) lIsRecord1) kIsRecord0)))
def irRequireRecord : CSs := (.cons (.ife (.not (.call "is_record" (.cons (.var 0) .nil))) (.cons (.st0 (sRaise "InvalidRecord")) .nil) .nil) .nil)
def irRequireRecordAndReaders : CSs := (.cons (.expr (.call "require_record" (.cons (.var 0) .nil))) (.cons (.expr (.call "require_readers" (.cons (.var 1) (.cons (.var 2) .nil)))) .nil))
def iibB (d : PyData) (lo hi : Int) : Bool := match d with
  | .int i => decide (lo ≤ i ∧ i ≤ hi)
  | _ => false
def wIib : Wp := fun as Q _ => ∃ d lo hi, as = [.sh d, .sh (.int lo), .sh (.int hi)] ∧ Q (.sh (.bool (iibB d lo hi))) as
theorem vcIib (Γ : Gam) (as : List T) (Q : T → List T → Prop) (E : Value → XF → List T → Prop) (h : wIib as Q E) : wpS Γ irIsIntegerBetween (qd0 ["value", "least", "greatest"] as) (endW as Q) := by
  obtain ⟨d, lo, hi, rfl, q⟩ := h
  cases d
  case int i =>
    simp (config := {maxSteps := 2000000}) only [↓wpS, ↓wp1, ↓wpV, ↓wpO, ↓wpT, ↓wpL, ↓wpA, ↓wpI, ↓wpTg_name, ↓andThen, ↓rdVar, ↓argVar, ↓mvVar, ↓callW, qg0, qb0, Option.map_some, Option.map_none, view_tmp, view_var, tree_tmp, tree_var, lst_tmp, lst_var, tup_tmp, tup_var, toD_sh, toD_shs, toD_shsT, toD_lnil, shs_nil', lstOf_shL, lstOf_lst, tupOf_shT, tupOf_tup, lstOf_int, tupOf_int, lstOf_tupD, tupOf_lstD, lstOf_tup, tupOf_lst, lstOf_str, tupOf_str, shs_map, shs_cons, List.set_cons_succ, List.set_cons_zero, List.getElem?_cons_zero, List.getElem?_cons_succ, Option.join_some, Option.bind_some, Option.bind_none, Option.some.injEq, Prod.mk.injEq, T.sh.injEq, T.lst.injEq, T.tup.injEq, T.dct.injEq, PyData.int.injEq, PyData.str.injEq, PyData.bool.injEq, PyData.list.injEq, PyData.tuple.injEq, List.cons.injEq, exists_eq_left', exists_eq_left, exists_and_left, exists_and_right, exists_eq', exists_eq, exists_const, and_assoc, true_and, and_true, false_and, and_false, or_false, false_or, exists_false, true_implies, false_implies, implies_true, forall_eq', forall_eq, decide_eq_true_eq, decide_eq_false_iff_not, Bool.not_eq_true', Bool.not_eq_false', Bool.not_eq_true, Bool.not_eq_false, decide_true, decide_false, Bool.not_true, Bool.not_false, Bool.false_eq_true, Bool.true_eq_false, reduceCtorEq, CmpO, cmpX_eqI, cmpX_neI, cmpX_lt, cmpX_le, cmpX_gt, cmpX_ge, cmpX_eqS, cmpX_neS, cmpX_isN, cmpX_notN, cmpX_isB, PlusO, IntO, TimesO, turn_nx, turn_ct, turn_bk, turn_rt, wipeR, eq_self, not_true_eq_false, not_false_eq_true, ite_true, ite_false, if_true, if_false, ne_eq, qd0, List.map_cons, List.map_nil, List.length_cons, List.length_nil, List.replicate_succ, List.replicate_zero, List.cons_append, List.nil_append, Nat.reduceAdd, Nat.reduceSub, Nat.reduceMul, endW_rt, endW_nx, finR, isSh, IxO, seqT_shL, seqT_shT, seqT_lst, seqT_tup, atI_map, atI_c0, atI_c1, atI_c2, CE.plainC, Option.map_eq_some_iff, lenT_shL, lenT_shT, lenT_lst, lenT_tup, lenT_str, lenT_scr, lstOf_scr, tupOf_scr, T.scr.injEq, toD_scr, List.length_map, intD_int, intD_bool, max2_int, min2_int, truO_bool, truO_int, truO_list, truO_tuple, truO_none, isNone_int, isNone_none, isNone_list, isNone_tuple, isNone_str, isNone_bool, map_int_inj, qf0, qh0, SlO, Op2.C, Op2.g, Int.reduceToNat, Bk1.D, Bk2.D, atom_int, atom_bool, atom_none, atom_str, ↓uRepr_wp, ↓uRepr_pl, ↓uList_wp, ↓uList_pl, ↓uTuple_wp, ↓uTuple_pl, ↓uSorted_wp, ↓uSorted_pl, ↓uAbs_wp, ↓uAbs_pl, ↓uRev_wp, ↓uRev_pl, ↓uIsSeq_wp, ↓uIsSeq_pl, ↓bTo_wp, ↓bTo_pre, ↓bFrom_wp, ↓bFrom_pre, ↓iZip_wp, ↓bCount_wp, ↓bCount_pre, ↓bIndex_wp, ↓bIndex_pre, ↓bDivmod_wp, ↓bDivmod_pre, ↓iRange2_wp, ↓iRange3_wp, ↓bGetD_pre, ↓uListRange_wp, ↓uListRange_pl, ↓bListRange_wp, ↓bListRange_pre, ↓sRaise_wp, ↓nDict0_wp, ↓nDict0_pl, ↓iZipS_wp, ↓iZip3_wp, ↓iEnumL_wp, ↓uSumT_wp, ↓uSumT_pl, ↓tListStar_wp, ↓tListStar_pre, ↓uLen_wp, ↓uLen_pl, ↓uIsInt_wp, ↓uIsInt_pl, ↓uIsBool_wp, ↓uIsBool_pl, ↓uIsStr_wp, ↓uIsStr_pl, ↓uIsList_wp, ↓uIsList_pl, ↓uIsTuple_wp, ↓uIsTuple_pl, ↓bGetD_wp, irIsIntegerBetween, kit_int, kit_bool]
    refine ⟨fun h1 => ?_, fun h1 => ?_⟩
    · have e : iibB (.int i) lo hi = decide (i ≤ hi) := by simp [iibB, h1]
      rw [e] at q; exact q
    · have e : iibB (.int i) lo hi = false := by simp [iibB]; omega
      rw [e] at q; exact q
  all_goals
    simp (config := {maxSteps := 2000000}) only [↓wpS, ↓wp1, ↓wpV, ↓wpO, ↓wpT, ↓wpL, ↓wpA, ↓wpI, ↓wpTg_name, ↓andThen, ↓rdVar, ↓argVar, ↓mvVar, ↓callW, qg0, qb0, Option.map_some, Option.map_none, view_tmp, view_var, tree_tmp, tree_var, lst_tmp, lst_var, tup_tmp, tup_var, toD_sh, toD_shs, toD_shsT, toD_lnil, shs_nil', lstOf_shL, lstOf_lst, tupOf_shT, tupOf_tup, lstOf_int, tupOf_int, lstOf_tupD, tupOf_lstD, lstOf_tup, tupOf_lst, lstOf_str, tupOf_str, shs_map, shs_cons, List.set_cons_succ, List.set_cons_zero, List.getElem?_cons_zero, List.getElem?_cons_succ, Option.join_some, Option.bind_some, Option.bind_none, Option.some.injEq, Prod.mk.injEq, T.sh.injEq, T.lst.injEq, T.tup.injEq, T.dct.injEq, PyData.int.injEq, PyData.str.injEq, PyData.bool.injEq, PyData.list.injEq, PyData.tuple.injEq, List.cons.injEq, exists_eq_left', exists_eq_left, exists_and_left, exists_and_right, exists_eq', exists_eq, exists_const, and_assoc, true_and, and_true, false_and, and_false, or_false, false_or, exists_false, true_implies, false_implies, implies_true, forall_eq', forall_eq, decide_eq_true_eq, decide_eq_false_iff_not, Bool.not_eq_true', Bool.not_eq_false', Bool.not_eq_true, Bool.not_eq_false, decide_true, decide_false, Bool.not_true, Bool.not_false, Bool.false_eq_true, Bool.true_eq_false, reduceCtorEq, CmpO, cmpX_eqI, cmpX_neI, cmpX_lt, cmpX_le, cmpX_gt, cmpX_ge, cmpX_eqS, cmpX_neS, cmpX_isN, cmpX_notN, cmpX_isB, PlusO, IntO, TimesO, turn_nx, turn_ct, turn_bk, turn_rt, wipeR, eq_self, not_true_eq_false, not_false_eq_true, ite_true, ite_false, if_true, if_false, ne_eq, qd0, List.map_cons, List.map_nil, List.length_cons, List.length_nil, List.replicate_succ, List.replicate_zero, List.cons_append, List.nil_append, Nat.reduceAdd, Nat.reduceSub, Nat.reduceMul, endW_rt, endW_nx, finR, isSh, IxO, seqT_shL, seqT_shT, seqT_lst, seqT_tup, atI_map, atI_c0, atI_c1, atI_c2, CE.plainC, Option.map_eq_some_iff, lenT_shL, lenT_shT, lenT_lst, lenT_tup, lenT_str, lenT_scr, lstOf_scr, tupOf_scr, T.scr.injEq, toD_scr, List.length_map, intD_int, intD_bool, max2_int, min2_int, truO_bool, truO_int, truO_list, truO_tuple, truO_none, isNone_int, isNone_none, isNone_list, isNone_tuple, isNone_str, isNone_bool, map_int_inj, qf0, qh0, SlO, Op2.C, Op2.g, Int.reduceToNat, Bk1.D, Bk2.D, atom_int, atom_bool, atom_none, atom_str, ↓uRepr_wp, ↓uRepr_pl, ↓uList_wp, ↓uList_pl, ↓uTuple_wp, ↓uTuple_pl, ↓uSorted_wp, ↓uSorted_pl, ↓uAbs_wp, ↓uAbs_pl, ↓uRev_wp, ↓uRev_pl, ↓uIsSeq_wp, ↓uIsSeq_pl, ↓bTo_wp, ↓bTo_pre, ↓bFrom_wp, ↓bFrom_pre, ↓iZip_wp, ↓bCount_wp, ↓bCount_pre, ↓bIndex_wp, ↓bIndex_pre, ↓bDivmod_wp, ↓bDivmod_pre, ↓iRange2_wp, ↓iRange3_wp, ↓bGetD_pre, ↓uListRange_wp, ↓uListRange_pl, ↓bListRange_wp, ↓bListRange_pre, ↓sRaise_wp, ↓nDict0_wp, ↓nDict0_pl, ↓iZipS_wp, ↓iZip3_wp, ↓iEnumL_wp, ↓uSumT_wp, ↓uSumT_pl, ↓tListStar_wp, ↓tListStar_pre, ↓uLen_wp, ↓uLen_pl, ↓uIsInt_wp, ↓uIsInt_pl, ↓uIsBool_wp, ↓uIsBool_pl, ↓uIsStr_wp, ↓uIsStr_pl, ↓uIsList_wp, ↓uIsList_pl, ↓uIsTuple_wp, ↓uIsTuple_pl, ↓bGetD_wp, irIsIntegerBetween, kit_int, kit_bool]
    simpa [iibB] using q
def seqB (d : PyData) : Option (List PyData) := match d with
  | .list ds => some ds
  | .tuple ds => some ds
  | _ => none
def iluB (d : PyData) (n : Int) : Bool := match seqB d with
  | some ds => decide ((ds.length : Int) ≤ n)
  | none => false
def wIlu : Wp := fun as Q _ => ∃ d n, as = [.sh d, .sh (.int n)] ∧ Q (.sh (.bool (iluB d n))) as
theorem vcIlu (Γ : Gam) (as : List T) (Q : T → List T → Prop) (E : Value → XF → List T → Prop) (h : wIlu as Q E) : wpS Γ irIsListUpTo (qd0 ["value", "most"] as) (endW as Q) := by
  obtain ⟨d, n, rfl, q⟩ := h
  cases d
  all_goals
    simp (config := {maxSteps := 2000000}) only [↓wpS, ↓wp1, ↓wpV, ↓wpO, ↓wpT, ↓wpL, ↓wpA, ↓wpI, ↓wpTg_name, ↓andThen, ↓rdVar, ↓argVar, ↓mvVar, ↓callW, qg0, qb0, Option.map_some, Option.map_none, view_tmp, view_var, tree_tmp, tree_var, lst_tmp, lst_var, tup_tmp, tup_var, toD_sh, toD_shs, toD_shsT, toD_lnil, shs_nil', lstOf_shL, lstOf_lst, tupOf_shT, tupOf_tup, lstOf_int, tupOf_int, lstOf_tupD, tupOf_lstD, lstOf_tup, tupOf_lst, lstOf_str, tupOf_str, shs_map, shs_cons, List.set_cons_succ, List.set_cons_zero, List.getElem?_cons_zero, List.getElem?_cons_succ, Option.join_some, Option.bind_some, Option.bind_none, Option.some.injEq, Prod.mk.injEq, T.sh.injEq, T.lst.injEq, T.tup.injEq, T.dct.injEq, PyData.int.injEq, PyData.str.injEq, PyData.bool.injEq, PyData.list.injEq, PyData.tuple.injEq, List.cons.injEq, exists_eq_left', exists_eq_left, exists_and_left, exists_and_right, exists_eq', exists_eq, exists_const, and_assoc, true_and, and_true, false_and, and_false, or_false, false_or, exists_false, true_implies, false_implies, implies_true, forall_eq', forall_eq, decide_eq_true_eq, decide_eq_false_iff_not, Bool.not_eq_true', Bool.not_eq_false', Bool.not_eq_true, Bool.not_eq_false, decide_true, decide_false, Bool.not_true, Bool.not_false, Bool.false_eq_true, Bool.true_eq_false, reduceCtorEq, CmpO, cmpX_eqI, cmpX_neI, cmpX_lt, cmpX_le, cmpX_gt, cmpX_ge, cmpX_eqS, cmpX_neS, cmpX_isN, cmpX_notN, cmpX_isB, PlusO, IntO, TimesO, turn_nx, turn_ct, turn_bk, turn_rt, wipeR, eq_self, not_true_eq_false, not_false_eq_true, ite_true, ite_false, if_true, if_false, ne_eq, qd0, List.map_cons, List.map_nil, List.length_cons, List.length_nil, List.replicate_succ, List.replicate_zero, List.cons_append, List.nil_append, Nat.reduceAdd, Nat.reduceSub, Nat.reduceMul, endW_rt, endW_nx, finR, isSh, IxO, seqT_shL, seqT_shT, seqT_lst, seqT_tup, atI_map, atI_c0, atI_c1, atI_c2, CE.plainC, Option.map_eq_some_iff, lenT_shL, lenT_shT, lenT_lst, lenT_tup, lenT_str, lenT_scr, lstOf_scr, tupOf_scr, T.scr.injEq, toD_scr, List.length_map, intD_int, intD_bool, max2_int, min2_int, truO_bool, truO_int, truO_list, truO_tuple, truO_none, isNone_int, isNone_none, isNone_list, isNone_tuple, isNone_str, isNone_bool, map_int_inj, qf0, qh0, SlO, Op2.C, Op2.g, Int.reduceToNat, Bk1.D, Bk2.D, atom_int, atom_bool, atom_none, atom_str, ↓uRepr_wp, ↓uRepr_pl, ↓uList_wp, ↓uList_pl, ↓uTuple_wp, ↓uTuple_pl, ↓uSorted_wp, ↓uSorted_pl, ↓uAbs_wp, ↓uAbs_pl, ↓uRev_wp, ↓uRev_pl, ↓uIsSeq_wp, ↓uIsSeq_pl, ↓bTo_wp, ↓bTo_pre, ↓bFrom_wp, ↓bFrom_pre, ↓iZip_wp, ↓bCount_wp, ↓bCount_pre, ↓bIndex_wp, ↓bIndex_pre, ↓bDivmod_wp, ↓bDivmod_pre, ↓iRange2_wp, ↓iRange3_wp, ↓bGetD_pre, ↓uListRange_wp, ↓uListRange_pl, ↓bListRange_wp, ↓bListRange_pre, ↓sRaise_wp, ↓nDict0_wp, ↓nDict0_pl, ↓iZipS_wp, ↓iZip3_wp, ↓iEnumL_wp, ↓uSumT_wp, ↓uSumT_pl, ↓tListStar_wp, ↓tListStar_pre, ↓uLen_wp, ↓uLen_pl, ↓uIsInt_wp, ↓uIsInt_pl, ↓uIsBool_wp, ↓uIsBool_pl, ↓uIsStr_wp, ↓uIsStr_pl, ↓uIsList_wp, ↓uIsList_pl, ↓uIsTuple_wp, ↓uIsTuple_pl, ↓bGetD_wp, irIsListUpTo, kit_list, kit_tuple, Bool.or_false, Bool.false_or, Bool.or_true]
    simpa [iluB, seqB] using q
def pairB (d : PyData) : Bool := match seqB d with
  | some ds => decide (ds.length = 2)
  | none => false
def wPair : Wp := fun as Q _ => ∃ d, as = [.sh d] ∧ Q (.sh (.bool (pairB d))) as
theorem vcPair (Γ : Gam) (as : List T) (Q : T → List T → Prop) (E : Value → XF → List T → Prop) (h : wPair as Q E) : wpS Γ irIsPair (qd0 ["value"] as) (endW as Q) := by
  obtain ⟨d, rfl, q⟩ := h
  cases d
  all_goals
    simp (config := {maxSteps := 2000000}) only [↓wpS, ↓wp1, ↓wpV, ↓wpO, ↓wpT, ↓wpL, ↓wpA, ↓wpI, ↓wpTg_name, ↓andThen, ↓rdVar, ↓argVar, ↓mvVar, ↓callW, qg0, qb0, Option.map_some, Option.map_none, view_tmp, view_var, tree_tmp, tree_var, lst_tmp, lst_var, tup_tmp, tup_var, toD_sh, toD_shs, toD_shsT, toD_lnil, shs_nil', lstOf_shL, lstOf_lst, tupOf_shT, tupOf_tup, lstOf_int, tupOf_int, lstOf_tupD, tupOf_lstD, lstOf_tup, tupOf_lst, lstOf_str, tupOf_str, shs_map, shs_cons, List.set_cons_succ, List.set_cons_zero, List.getElem?_cons_zero, List.getElem?_cons_succ, Option.join_some, Option.bind_some, Option.bind_none, Option.some.injEq, Prod.mk.injEq, T.sh.injEq, T.lst.injEq, T.tup.injEq, T.dct.injEq, PyData.int.injEq, PyData.str.injEq, PyData.bool.injEq, PyData.list.injEq, PyData.tuple.injEq, List.cons.injEq, exists_eq_left', exists_eq_left, exists_and_left, exists_and_right, exists_eq', exists_eq, exists_const, and_assoc, true_and, and_true, false_and, and_false, or_false, false_or, exists_false, true_implies, false_implies, implies_true, forall_eq', forall_eq, decide_eq_true_eq, decide_eq_false_iff_not, Bool.not_eq_true', Bool.not_eq_false', Bool.not_eq_true, Bool.not_eq_false, decide_true, decide_false, Bool.not_true, Bool.not_false, Bool.false_eq_true, Bool.true_eq_false, reduceCtorEq, CmpO, cmpX_eqI, cmpX_neI, cmpX_lt, cmpX_le, cmpX_gt, cmpX_ge, cmpX_eqS, cmpX_neS, cmpX_isN, cmpX_notN, cmpX_isB, PlusO, IntO, TimesO, turn_nx, turn_ct, turn_bk, turn_rt, wipeR, eq_self, not_true_eq_false, not_false_eq_true, ite_true, ite_false, if_true, if_false, ne_eq, qd0, List.map_cons, List.map_nil, List.length_cons, List.length_nil, List.replicate_succ, List.replicate_zero, List.cons_append, List.nil_append, Nat.reduceAdd, Nat.reduceSub, Nat.reduceMul, endW_rt, endW_nx, finR, isSh, IxO, seqT_shL, seqT_shT, seqT_lst, seqT_tup, atI_map, atI_c0, atI_c1, atI_c2, CE.plainC, Option.map_eq_some_iff, lenT_shL, lenT_shT, lenT_lst, lenT_tup, lenT_str, lenT_scr, lstOf_scr, tupOf_scr, T.scr.injEq, toD_scr, List.length_map, intD_int, intD_bool, max2_int, min2_int, truO_bool, truO_int, truO_list, truO_tuple, truO_none, isNone_int, isNone_none, isNone_list, isNone_tuple, isNone_str, isNone_bool, map_int_inj, qf0, qh0, SlO, Op2.C, Op2.g, Int.reduceToNat, Bk1.D, Bk2.D, atom_int, atom_bool, atom_none, atom_str, ↓uRepr_wp, ↓uRepr_pl, ↓uList_wp, ↓uList_pl, ↓uTuple_wp, ↓uTuple_pl, ↓uSorted_wp, ↓uSorted_pl, ↓uAbs_wp, ↓uAbs_pl, ↓uRev_wp, ↓uRev_pl, ↓uIsSeq_wp, ↓uIsSeq_pl, ↓bTo_wp, ↓bTo_pre, ↓bFrom_wp, ↓bFrom_pre, ↓iZip_wp, ↓bCount_wp, ↓bCount_pre, ↓bIndex_wp, ↓bIndex_pre, ↓bDivmod_wp, ↓bDivmod_pre, ↓iRange2_wp, ↓iRange3_wp, ↓bGetD_pre, ↓uListRange_wp, ↓uListRange_pl, ↓bListRange_wp, ↓bListRange_pre, ↓sRaise_wp, ↓nDict0_wp, ↓nDict0_pl, ↓iZipS_wp, ↓iZip3_wp, ↓iEnumL_wp, ↓uSumT_wp, ↓uSumT_pl, ↓tListStar_wp, ↓tListStar_pre, ↓uLen_wp, ↓uLen_pl, ↓uIsInt_wp, ↓uIsInt_pl, ↓uIsBool_wp, ↓uIsBool_pl, ↓uIsStr_wp, ↓uIsStr_pl, ↓uIsList_wp, ↓uIsList_pl, ↓uIsTuple_wp, ↓uIsTuple_pl, ↓bGetD_wp, irIsPair, kit_list, kit_tuple, Bool.or_false, Bool.false_or, Bool.or_true]
    first | (simpa [pairB, seqB] using q) | (simp only [pairB, seqB] at q; rename_i ds; rw [show decide ((ds.length : Int) = 2) = decide (ds.length = 2) from by simp; omega]; exact q)
def aibB (d : PyData) (n lo hi : Int) : Bool := match seqB d with
  | some ds => decide ((ds.length : Int) ≤ n) && ds.all fun x => iibB x lo hi
  | none => false
def wAib : Wp := fun as Q _ => ∃ d n lo hi, as = [.sh d, .sh (.int n), .sh (.int lo), .sh (.int hi)] ∧ n ≤ 1000000 ∧ Q (.sh (.bool (aibB d n lo hi))) as
def wRqr (c : Value) : Wp := fun as Q E => ∃ d n, as = [.sh d, .sh (.int n)] ∧ (iibB d 1 n = true → Q (.sh .none) as) ∧ (iibB d 1 n = false → E c none as)
def runB (d : PyData) : Bool := match seqB d with
  | some [c, n] => iibB c (-1) 1 && iibB n 1 (10 ^ 30)
  | _ => false
def wRun : Wp := fun as Q _ => ∃ d, as = [.sh d] ∧ Q (.sh (.bool (runB d))) as
theorem vcRun (Γ : Gam) (h1 : Γ.fn "is_pair" = some wPair) (h2 : Γ.fn "is_integer_between" = some wIib) (h3 : Γ.ct "MOST_COUNT" = some (10 ^ 30)) (as : List T) (Q : T → List T → Prop) (E : Value → XF → List T → Prop) (h : wRun as Q E) : wpS Γ irIsRun (qd0 ["value"] as) (endW as Q) := by
  obtain ⟨d, rfl, q⟩ := h
  simp (config := {maxSteps := 2000000}) only [↓wpS, ↓wp1, ↓wpV, ↓wpO, ↓wpT, ↓wpL, ↓wpA, ↓wpI, ↓wpTg_name, ↓andThen, ↓rdVar, ↓argVar, ↓mvVar, ↓callW, qg0, qb0, Option.map_some, Option.map_none, view_tmp, view_var, tree_tmp, tree_var, lst_tmp, lst_var, tup_tmp, tup_var, toD_sh, toD_shs, toD_shsT, toD_lnil, shs_nil', lstOf_shL, lstOf_lst, tupOf_shT, tupOf_tup, lstOf_int, tupOf_int, lstOf_tupD, tupOf_lstD, lstOf_tup, tupOf_lst, lstOf_str, tupOf_str, shs_map, shs_cons, List.set_cons_succ, List.set_cons_zero, List.getElem?_cons_zero, List.getElem?_cons_succ, Option.join_some, Option.bind_some, Option.bind_none, Option.some.injEq, Prod.mk.injEq, T.sh.injEq, T.lst.injEq, T.tup.injEq, T.dct.injEq, PyData.int.injEq, PyData.str.injEq, PyData.bool.injEq, PyData.list.injEq, PyData.tuple.injEq, List.cons.injEq, exists_eq_left', exists_eq_left, exists_and_left, exists_and_right, exists_eq', exists_eq, exists_const, and_assoc, true_and, and_true, false_and, and_false, or_false, false_or, exists_false, true_implies, false_implies, implies_true, forall_eq', forall_eq, decide_eq_true_eq, decide_eq_false_iff_not, Bool.not_eq_true', Bool.not_eq_false', Bool.not_eq_true, Bool.not_eq_false, decide_true, decide_false, Bool.not_true, Bool.not_false, Bool.false_eq_true, Bool.true_eq_false, reduceCtorEq, CmpO, cmpX_eqI, cmpX_neI, cmpX_lt, cmpX_le, cmpX_gt, cmpX_ge, cmpX_eqS, cmpX_neS, cmpX_isN, cmpX_notN, cmpX_isB, PlusO, IntO, TimesO, turn_nx, turn_ct, turn_bk, turn_rt, wipeR, eq_self, not_true_eq_false, not_false_eq_true, ite_true, ite_false, if_true, if_false, ne_eq, qd0, List.map_cons, List.map_nil, List.length_cons, List.length_nil, List.replicate_succ, List.replicate_zero, List.cons_append, List.nil_append, Nat.reduceAdd, Nat.reduceSub, Nat.reduceMul, endW_rt, endW_nx, finR, isSh, IxO, seqT_shL, seqT_shT, seqT_lst, seqT_tup, atI_map, atI_c0, atI_c1, atI_c2, CE.plainC, Option.map_eq_some_iff, lenT_shL, lenT_shT, lenT_lst, lenT_tup, lenT_str, lenT_scr, lstOf_scr, tupOf_scr, T.scr.injEq, toD_scr, List.length_map, intD_int, intD_bool, max2_int, min2_int, truO_bool, truO_int, truO_list, truO_tuple, truO_none, isNone_int, isNone_none, isNone_list, isNone_tuple, isNone_str, isNone_bool, map_int_inj, qf0, qh0, SlO, Op2.C, Op2.g, Int.reduceToNat, Bk1.D, Bk2.D, atom_int, atom_bool, atom_none, atom_str, ↓uRepr_wp, ↓uRepr_pl, ↓uList_wp, ↓uList_pl, ↓uTuple_wp, ↓uTuple_pl, ↓uSorted_wp, ↓uSorted_pl, ↓uAbs_wp, ↓uAbs_pl, ↓uRev_wp, ↓uRev_pl, ↓uIsSeq_wp, ↓uIsSeq_pl, ↓bTo_wp, ↓bTo_pre, ↓bFrom_wp, ↓bFrom_pre, ↓iZip_wp, ↓bCount_wp, ↓bCount_pre, ↓bIndex_wp, ↓bIndex_pre, ↓bDivmod_wp, ↓bDivmod_pre, ↓iRange2_wp, ↓iRange3_wp, ↓bGetD_pre, ↓uListRange_wp, ↓uListRange_pl, ↓bListRange_wp, ↓bListRange_pre, ↓sRaise_wp, ↓nDict0_wp, ↓nDict0_pl, ↓iZipS_wp, ↓iZip3_wp, ↓iEnumL_wp, ↓uSumT_wp, ↓uSumT_pl, ↓tListStar_wp, ↓tListStar_pre, ↓uLen_wp, ↓uLen_pl, ↓uIsInt_wp, ↓uIsInt_pl, ↓uIsBool_wp, ↓uIsBool_pl, ↓uIsStr_wp, ↓uIsStr_pl, ↓uIsList_wp, ↓uIsList_pl, ↓uIsTuple_wp, ↓uIsTuple_pl, ↓bGetD_wp, irIsRun, ↓callL h1, ↓callL h2, ↓ctL h3, ↓wPair, ↓wIib]
  cases e : seqB d with
  | none =>
    simp only [pairB, runB, e] at q ⊢
    simpa using q
  | some ds =>
    simp only [pairB, runB, e] at q ⊢
    match ds, e, q with
    | [c, n], e, q =>
      have q : Q (.sh (.bool (iibB c (-1) 1 && iibB n 1 (10 ^ 30)))) [.sh d] := q
      have es : seqT (.sh d) = some [.sh c, .sh n] := by cases d <;> simp [seqB] at e <;> subst e <;> rfl
      simp (config := {maxSteps := 2000000}) only [es, ↓wpS, ↓wp1, ↓wpV, ↓wpO, ↓wpT, ↓wpL, ↓wpA, ↓wpI, ↓wpTg_name, ↓andThen, ↓rdVar, ↓argVar, ↓mvVar, ↓callW, qg0, qb0, Option.map_some, Option.map_none, view_tmp, view_var, tree_tmp, tree_var, lst_tmp, lst_var, tup_tmp, tup_var, toD_sh, toD_shs, toD_shsT, toD_lnil, shs_nil', lstOf_shL, lstOf_lst, tupOf_shT, tupOf_tup, lstOf_int, tupOf_int, lstOf_tupD, tupOf_lstD, lstOf_tup, tupOf_lst, lstOf_str, tupOf_str, shs_map, shs_cons, List.set_cons_succ, List.set_cons_zero, List.getElem?_cons_zero, List.getElem?_cons_succ, Option.join_some, Option.bind_some, Option.bind_none, Option.some.injEq, Prod.mk.injEq, T.sh.injEq, T.lst.injEq, T.tup.injEq, T.dct.injEq, PyData.int.injEq, PyData.str.injEq, PyData.bool.injEq, PyData.list.injEq, PyData.tuple.injEq, List.cons.injEq, exists_eq_left', exists_eq_left, exists_and_left, exists_and_right, exists_eq', exists_eq, exists_const, and_assoc, true_and, and_true, false_and, and_false, or_false, false_or, exists_false, true_implies, false_implies, implies_true, forall_eq', forall_eq, decide_eq_true_eq, decide_eq_false_iff_not, Bool.not_eq_true', Bool.not_eq_false', Bool.not_eq_true, Bool.not_eq_false, decide_true, decide_false, Bool.not_true, Bool.not_false, Bool.false_eq_true, Bool.true_eq_false, reduceCtorEq, CmpO, cmpX_eqI, cmpX_neI, cmpX_lt, cmpX_le, cmpX_gt, cmpX_ge, cmpX_eqS, cmpX_neS, cmpX_isN, cmpX_notN, cmpX_isB, PlusO, IntO, TimesO, turn_nx, turn_ct, turn_bk, turn_rt, wipeR, eq_self, not_true_eq_false, not_false_eq_true, ite_true, ite_false, if_true, if_false, ne_eq, qd0, List.map_cons, List.map_nil, List.length_cons, List.length_nil, List.replicate_succ, List.replicate_zero, List.cons_append, List.nil_append, Nat.reduceAdd, Nat.reduceSub, Nat.reduceMul, endW_rt, endW_nx, finR, isSh, IxO, seqT_shL, seqT_shT, seqT_lst, seqT_tup, atI_map, atI_c0, atI_c1, atI_c2, CE.plainC, Option.map_eq_some_iff, lenT_shL, lenT_shT, lenT_lst, lenT_tup, lenT_str, lenT_scr, lstOf_scr, tupOf_scr, T.scr.injEq, toD_scr, List.length_map, intD_int, intD_bool, max2_int, min2_int, truO_bool, truO_int, truO_list, truO_tuple, truO_none, isNone_int, isNone_none, isNone_list, isNone_tuple, isNone_str, isNone_bool, map_int_inj, qf0, qh0, SlO, Op2.C, Op2.g, Int.reduceToNat, Bk1.D, Bk2.D, atom_int, atom_bool, atom_none, atom_str, ↓uRepr_wp, ↓uRepr_pl, ↓uList_wp, ↓uList_pl, ↓uTuple_wp, ↓uTuple_pl, ↓uSorted_wp, ↓uSorted_pl, ↓uAbs_wp, ↓uAbs_pl, ↓uRev_wp, ↓uRev_pl, ↓uIsSeq_wp, ↓uIsSeq_pl, ↓bTo_wp, ↓bTo_pre, ↓bFrom_wp, ↓bFrom_pre, ↓iZip_wp, ↓bCount_wp, ↓bCount_pre, ↓bIndex_wp, ↓bIndex_pre, ↓bDivmod_wp, ↓bDivmod_pre, ↓iRange2_wp, ↓iRange3_wp, ↓bGetD_pre, ↓uListRange_wp, ↓uListRange_pl, ↓bListRange_wp, ↓bListRange_pre, ↓sRaise_wp, ↓nDict0_wp, ↓nDict0_pl, ↓iZipS_wp, ↓iZip3_wp, ↓iEnumL_wp, ↓uSumT_wp, ↓uSumT_pl, ↓tListStar_wp, ↓tListStar_pre, ↓uLen_wp, ↓uLen_pl, ↓uIsInt_wp, ↓uIsInt_pl, ↓uIsBool_wp, ↓uIsBool_pl, ↓uIsStr_wp, ↓uIsStr_pl, ↓uIsList_wp, ↓uIsList_pl, ↓uIsTuple_wp, ↓uIsTuple_pl, ↓bGetD_wp]
      refine ⟨fun h => ?_, fun h => ?_⟩
      · rw [h, Bool.true_and] at q; exact q
      · rw [h, Bool.false_and] at q; exact q
    | [], e, q => simpa using q
    | [_], e, q => simpa using q
    | _ :: _ :: _ :: _, e, q => simpa using q
def recGo : List PyData → PyData → Bool
  | [], _ => true
  | r :: rs, b => runB r && (match seqB r with
    | some (c :: _) => !(PyData.eqv c b) && recGo rs c
    | _ => false)
def recB (d : PyData) : Bool := match seqB d with
  | some ds => decide (ds.length ≤ 400) && recGo ds .none
  | none => false
def wRec : Wp := fun as Q _ => ∃ d, as = [.sh d] ∧ Q (.sh (.bool (recB d))) as
theorem seq_is {d : PyData} {ds : List PyData} (e : seqB d = some ds) : d = .list ds ∨ d = .tuple ds := by cases d <;> simp [seqB] at e <;> simp [e]
theorem seqT_of {d : PyData} {ds : List PyData} (e : seqB d = some ds) : seqT (.sh d) = some (ds.map .sh) := by rcases seq_is e with rfl | rfl <;> rfl
theorem run_is {d : PyData} (h : runB d = true) : ∃ c n : Int, seqB d = some [.int c, .int n] ∧ (c = 1 ∨ c = 0 ∨ c = -1) ∧ 1 ≤ n ∧ n ≤ 10 ^ 30 := by
  unfold runB at h
  split at h
  · rename_i c n e
    rw [Bool.and_eq_true] at h
    cases c <;> simp [iibB] at h
    cases n <;> simp [iibB] at h
    exact ⟨_, _, e, by omega, h.2.1, h.2.2⟩
  · cases h
theorem vcRec (Γ : Gam) (h1 : Γ.fn "is_list_up_to" = some wIlu) (h2 : Γ.fn "is_run" = some wRun) (h3 : Γ.ct "MOST_ITEMS" = some 400) (as : List T) (Q : T → List T → Prop) (E : Value → XF → List T → Prop) (h : wRec as Q E) : wpS Γ irIsRecord (qd0 ["value", "change_before", "run"] as) (endW as Q) := by
  obtain ⟨d, rfl, q⟩ := h
  simp (config := {maxSteps := 2000000}) only [↓wpS, ↓wp1, ↓wpV, ↓wpO, ↓wpT, ↓wpL, ↓wpA, ↓wpI, ↓wpTg_name, ↓andThen, ↓rdVar, ↓argVar, ↓mvVar, ↓callW, qg0, qb0, Option.map_some, Option.map_none, view_tmp, view_var, tree_tmp, tree_var, lst_tmp, lst_var, tup_tmp, tup_var, toD_sh, toD_shs, toD_shsT, toD_lnil, shs_nil', lstOf_shL, lstOf_lst, tupOf_shT, tupOf_tup, lstOf_int, tupOf_int, lstOf_tupD, tupOf_lstD, lstOf_tup, tupOf_lst, lstOf_str, tupOf_str, shs_map, shs_cons, List.set_cons_succ, List.set_cons_zero, List.getElem?_cons_zero, List.getElem?_cons_succ, Option.join_some, Option.bind_some, Option.bind_none, Option.some.injEq, Prod.mk.injEq, T.sh.injEq, T.lst.injEq, T.tup.injEq, T.dct.injEq, PyData.int.injEq, PyData.str.injEq, PyData.bool.injEq, PyData.list.injEq, PyData.tuple.injEq, List.cons.injEq, exists_eq_left', exists_eq_left, exists_and_left, exists_and_right, exists_eq', exists_eq, exists_const, and_assoc, true_and, and_true, false_and, and_false, or_false, false_or, exists_false, true_implies, false_implies, implies_true, forall_eq', forall_eq, decide_eq_true_eq, decide_eq_false_iff_not, Bool.not_eq_true', Bool.not_eq_false', Bool.not_eq_true, Bool.not_eq_false, decide_true, decide_false, Bool.not_true, Bool.not_false, Bool.false_eq_true, Bool.true_eq_false, reduceCtorEq, CmpO, cmpX_eqI, cmpX_neI, cmpX_lt, cmpX_le, cmpX_gt, cmpX_ge, cmpX_eqS, cmpX_neS, cmpX_isN, cmpX_notN, cmpX_isB, PlusO, IntO, TimesO, turn_nx, turn_ct, turn_bk, turn_rt, wipeR, eq_self, not_true_eq_false, not_false_eq_true, ite_true, ite_false, if_true, if_false, ne_eq, qd0, List.map_cons, List.map_nil, List.length_cons, List.length_nil, List.replicate_succ, List.replicate_zero, List.cons_append, List.nil_append, Nat.reduceAdd, Nat.reduceSub, Nat.reduceMul, endW_rt, endW_nx, finR, isSh, IxO, seqT_shL, seqT_shT, seqT_lst, seqT_tup, atI_map, atI_c0, atI_c1, atI_c2, CE.plainC, Option.map_eq_some_iff, lenT_shL, lenT_shT, lenT_lst, lenT_tup, lenT_str, lenT_scr, lstOf_scr, tupOf_scr, T.scr.injEq, toD_scr, List.length_map, intD_int, intD_bool, max2_int, min2_int, truO_bool, truO_int, truO_list, truO_tuple, truO_none, isNone_int, isNone_none, isNone_list, isNone_tuple, isNone_str, isNone_bool, map_int_inj, qf0, qh0, SlO, Op2.C, Op2.g, Int.reduceToNat, Bk1.D, Bk2.D, atom_int, atom_bool, atom_none, atom_str, ↓uRepr_wp, ↓uRepr_pl, ↓uList_wp, ↓uList_pl, ↓uTuple_wp, ↓uTuple_pl, ↓uSorted_wp, ↓uSorted_pl, ↓uAbs_wp, ↓uAbs_pl, ↓uRev_wp, ↓uRev_pl, ↓uIsSeq_wp, ↓uIsSeq_pl, ↓bTo_wp, ↓bTo_pre, ↓bFrom_wp, ↓bFrom_pre, ↓iZip_wp, ↓bCount_wp, ↓bCount_pre, ↓bIndex_wp, ↓bIndex_pre, ↓bDivmod_wp, ↓bDivmod_pre, ↓iRange2_wp, ↓iRange3_wp, ↓bGetD_pre, ↓uListRange_wp, ↓uListRange_pl, ↓bListRange_wp, ↓bListRange_pre, ↓sRaise_wp, ↓nDict0_wp, ↓nDict0_pl, ↓iZipS_wp, ↓iZip3_wp, ↓iEnumL_wp, ↓uSumT_wp, ↓uSumT_pl, ↓tListStar_wp, ↓tListStar_pre, ↓uLen_wp, ↓uLen_pl, ↓uIsInt_wp, ↓uIsInt_pl, ↓uIsBool_wp, ↓uIsBool_pl, ↓uIsStr_wp, ↓uIsStr_pl, ↓uIsList_wp, ↓uIsList_pl, ↓uIsTuple_wp, ↓uIsTuple_pl, ↓bGetD_wp, irIsRecord, ↓callL h1, ↓ctL h3, ↓wIlu]
  cases e : seqB d with
  | none =>
    simp only [iluB, recB, e] at q ⊢
    simpa using q
  | some ds =>
    simp only [iluB, recB, e] at q ⊢
    by_cases hl : ds.length ≤ 400
    · have hl' : (ds.length : Int) ≤ 400 := by omega
      simp only [hl, decide_true, Bool.true_and] at q
      simp (config := {maxSteps := 2000000}) only [hl', ↓wpS, ↓wp1, ↓wpV, ↓wpO, ↓wpT, ↓wpL, ↓wpA, ↓wpI, ↓wpTg_name, ↓andThen, ↓rdVar, ↓argVar, ↓mvVar, ↓callW, qg0, qb0, Option.map_some, Option.map_none, view_tmp, view_var, tree_tmp, tree_var, lst_tmp, lst_var, tup_tmp, tup_var, toD_sh, toD_shs, toD_shsT, toD_lnil, shs_nil', lstOf_shL, lstOf_lst, tupOf_shT, tupOf_tup, lstOf_int, tupOf_int, lstOf_tupD, tupOf_lstD, lstOf_tup, tupOf_lst, lstOf_str, tupOf_str, shs_map, shs_cons, List.set_cons_succ, List.set_cons_zero, List.getElem?_cons_zero, List.getElem?_cons_succ, Option.join_some, Option.bind_some, Option.bind_none, Option.some.injEq, Prod.mk.injEq, T.sh.injEq, T.lst.injEq, T.tup.injEq, T.dct.injEq, PyData.int.injEq, PyData.str.injEq, PyData.bool.injEq, PyData.list.injEq, PyData.tuple.injEq, List.cons.injEq, exists_eq_left', exists_eq_left, exists_and_left, exists_and_right, exists_eq', exists_eq, exists_const, and_assoc, true_and, and_true, false_and, and_false, or_false, false_or, exists_false, true_implies, false_implies, implies_true, forall_eq', forall_eq, decide_eq_true_eq, decide_eq_false_iff_not, Bool.not_eq_true', Bool.not_eq_false', Bool.not_eq_true, Bool.not_eq_false, decide_true, decide_false, Bool.not_true, Bool.not_false, Bool.false_eq_true, Bool.true_eq_false, reduceCtorEq, CmpO, cmpX_eqI, cmpX_neI, cmpX_lt, cmpX_le, cmpX_gt, cmpX_ge, cmpX_eqS, cmpX_neS, cmpX_isN, cmpX_notN, cmpX_isB, PlusO, IntO, TimesO, turn_nx, turn_ct, turn_bk, turn_rt, wipeR, eq_self, not_true_eq_false, not_false_eq_true, ite_true, ite_false, if_true, if_false, ne_eq, qd0, List.map_cons, List.map_nil, List.length_cons, List.length_nil, List.replicate_succ, List.replicate_zero, List.cons_append, List.nil_append, Nat.reduceAdd, Nat.reduceSub, Nat.reduceMul, endW_rt, endW_nx, finR, isSh, IxO, seqT_shL, seqT_shT, seqT_lst, seqT_tup, atI_map, atI_c0, atI_c1, atI_c2, CE.plainC, Option.map_eq_some_iff, lenT_shL, lenT_shT, lenT_lst, lenT_tup, lenT_str, lenT_scr, lstOf_scr, tupOf_scr, T.scr.injEq, toD_scr, List.length_map, intD_int, intD_bool, max2_int, min2_int, truO_bool, truO_int, truO_list, truO_tuple, truO_none, isNone_int, isNone_none, isNone_list, isNone_tuple, isNone_str, isNone_bool, map_int_inj, qf0, qh0, SlO, Op2.C, Op2.g, Int.reduceToNat, Bk1.D, Bk2.D, atom_int, atom_bool, atom_none, atom_str, ↓uRepr_wp, ↓uRepr_pl, ↓uList_wp, ↓uList_pl, ↓uTuple_wp, ↓uTuple_pl, ↓uSorted_wp, ↓uSorted_pl, ↓uAbs_wp, ↓uAbs_pl, ↓uRev_wp, ↓uRev_pl, ↓uIsSeq_wp, ↓uIsSeq_pl, ↓bTo_wp, ↓bTo_pre, ↓bFrom_wp, ↓bFrom_pre, ↓iZip_wp, ↓bCount_wp, ↓bCount_pre, ↓bIndex_wp, ↓bIndex_pre, ↓bDivmod_wp, ↓bDivmod_pre, ↓iRange2_wp, ↓iRange3_wp, ↓bGetD_pre, ↓uListRange_wp, ↓uListRange_pl, ↓bListRange_wp, ↓bListRange_pre, ↓sRaise_wp, ↓nDict0_wp, ↓nDict0_pl, ↓iZipS_wp, ↓iZip3_wp, ↓iEnumL_wp, ↓uSumT_wp, ↓uSumT_pl, ↓tListStar_wp, ↓tListStar_pre, ↓uLen_wp, ↓uLen_pl, ↓uIsInt_wp, ↓uIsInt_pl, ↓uIsBool_wp, ↓uIsBool_pl, ↓uIsStr_wp, ↓uIsStr_pl, ↓uIsList_wp, ↓uIsList_pl, ↓uIsTuple_wp, ↓uIsTuple_pl, ↓bGetD_wp, kIsRecord0]
      refine ⟨ds, seq_is e, goFor_ind (fun rest ρ => ∃ b x, ρ = [some (.sh d), some (.sh b), x] ∧ (b = .none ∨ ∃ i : Int, b = .int i) ∧ Q (.sh (.bool (recGo rest b))) [.sh d]) (fun r rest ρ h K hK => ?_) (fun ρ h => ?_) ds _ ⟨.none, none, rfl, .inl rfl, q⟩⟩
      · obtain ⟨b, x, rfl, hb, h⟩ := h
        simp (config := {maxSteps := 2000000}) only [↓wpS, ↓wp1, ↓wpV, ↓wpO, ↓wpT, ↓wpL, ↓wpA, ↓wpI, ↓wpTg_name, ↓andThen, ↓rdVar, ↓argVar, ↓mvVar, ↓callW, qg0, qb0, Option.map_some, Option.map_none, view_tmp, view_var, tree_tmp, tree_var, lst_tmp, lst_var, tup_tmp, tup_var, toD_sh, toD_shs, toD_shsT, toD_lnil, shs_nil', lstOf_shL, lstOf_lst, tupOf_shT, tupOf_tup, lstOf_int, tupOf_int, lstOf_tupD, tupOf_lstD, lstOf_tup, tupOf_lst, lstOf_str, tupOf_str, shs_map, shs_cons, List.set_cons_succ, List.set_cons_zero, List.getElem?_cons_zero, List.getElem?_cons_succ, Option.join_some, Option.bind_some, Option.bind_none, Option.some.injEq, Prod.mk.injEq, T.sh.injEq, T.lst.injEq, T.tup.injEq, T.dct.injEq, PyData.int.injEq, PyData.str.injEq, PyData.bool.injEq, PyData.list.injEq, PyData.tuple.injEq, List.cons.injEq, exists_eq_left', exists_eq_left, exists_and_left, exists_and_right, exists_eq', exists_eq, exists_const, and_assoc, true_and, and_true, false_and, and_false, or_false, false_or, exists_false, true_implies, false_implies, implies_true, forall_eq', forall_eq, decide_eq_true_eq, decide_eq_false_iff_not, Bool.not_eq_true', Bool.not_eq_false', Bool.not_eq_true, Bool.not_eq_false, decide_true, decide_false, Bool.not_true, Bool.not_false, Bool.false_eq_true, Bool.true_eq_false, reduceCtorEq, CmpO, cmpX_eqI, cmpX_neI, cmpX_lt, cmpX_le, cmpX_gt, cmpX_ge, cmpX_eqS, cmpX_neS, cmpX_isN, cmpX_notN, cmpX_isB, PlusO, IntO, TimesO, turn_nx, turn_ct, turn_bk, turn_rt, wipeR, eq_self, not_true_eq_false, not_false_eq_true, ite_true, ite_false, if_true, if_false, ne_eq, qd0, List.map_cons, List.map_nil, List.length_cons, List.length_nil, List.replicate_succ, List.replicate_zero, List.cons_append, List.nil_append, Nat.reduceAdd, Nat.reduceSub, Nat.reduceMul, endW_rt, endW_nx, finR, isSh, IxO, seqT_shL, seqT_shT, seqT_lst, seqT_tup, atI_map, atI_c0, atI_c1, atI_c2, CE.plainC, Option.map_eq_some_iff, lenT_shL, lenT_shT, lenT_lst, lenT_tup, lenT_str, lenT_scr, lstOf_scr, tupOf_scr, T.scr.injEq, toD_scr, List.length_map, intD_int, intD_bool, max2_int, min2_int, truO_bool, truO_int, truO_list, truO_tuple, truO_none, isNone_int, isNone_none, isNone_list, isNone_tuple, isNone_str, isNone_bool, map_int_inj, qf0, qh0, SlO, Op2.C, Op2.g, Int.reduceToNat, Bk1.D, Bk2.D, atom_int, atom_bool, atom_none, atom_str, ↓uRepr_wp, ↓uRepr_pl, ↓uList_wp, ↓uList_pl, ↓uTuple_wp, ↓uTuple_pl, ↓uSorted_wp, ↓uSorted_pl, ↓uAbs_wp, ↓uAbs_pl, ↓uRev_wp, ↓uRev_pl, ↓uIsSeq_wp, ↓uIsSeq_pl, ↓bTo_wp, ↓bTo_pre, ↓bFrom_wp, ↓bFrom_pre, ↓iZip_wp, ↓bCount_wp, ↓bCount_pre, ↓bIndex_wp, ↓bIndex_pre, ↓bDivmod_wp, ↓bDivmod_pre, ↓iRange2_wp, ↓iRange3_wp, ↓bGetD_pre, ↓uListRange_wp, ↓uListRange_pl, ↓bListRange_wp, ↓bListRange_pre, ↓sRaise_wp, ↓nDict0_wp, ↓nDict0_pl, ↓iZipS_wp, ↓iZip3_wp, ↓iEnumL_wp, ↓uSumT_wp, ↓uSumT_pl, ↓tListStar_wp, ↓tListStar_pre, ↓uLen_wp, ↓uLen_pl, ↓uIsInt_wp, ↓uIsInt_pl, ↓uIsBool_wp, ↓uIsBool_pl, ↓uIsStr_wp, ↓uIsStr_pl, ↓uIsList_wp, ↓uIsList_pl, ↓uIsTuple_wp, ↓uIsTuple_pl, ↓bGetD_wp, lIsRecord1, ↓callL h2, ↓wRun]
        cases hr : runB r with
        | false =>
          simp only [recGo, hr] at h
          simpa using h
        | true =>
          obtain ⟨c, n, er, hc, _⟩ := run_is hr
          simp only [recGo, hr, er] at h
          simp (config := {maxSteps := 2000000}) only [↓wpS, ↓wp1, ↓wpV, ↓wpO, ↓wpT, ↓wpL, ↓wpA, ↓wpI, ↓wpTg_name, ↓andThen, ↓rdVar, ↓argVar, ↓mvVar, ↓callW, qg0, qb0, Option.map_some, Option.map_none, view_tmp, view_var, tree_tmp, tree_var, lst_tmp, lst_var, tup_tmp, tup_var, toD_sh, toD_shs, toD_shsT, toD_lnil, shs_nil', lstOf_shL, lstOf_lst, tupOf_shT, tupOf_tup, lstOf_int, tupOf_int, lstOf_tupD, tupOf_lstD, lstOf_tup, tupOf_lst, lstOf_str, tupOf_str, shs_map, shs_cons, List.set_cons_succ, List.set_cons_zero, List.getElem?_cons_zero, List.getElem?_cons_succ, Option.join_some, Option.bind_some, Option.bind_none, Option.some.injEq, Prod.mk.injEq, T.sh.injEq, T.lst.injEq, T.tup.injEq, T.dct.injEq, PyData.int.injEq, PyData.str.injEq, PyData.bool.injEq, PyData.list.injEq, PyData.tuple.injEq, List.cons.injEq, exists_eq_left', exists_eq_left, exists_and_left, exists_and_right, exists_eq', exists_eq, exists_const, and_assoc, true_and, and_true, false_and, and_false, or_false, false_or, exists_false, true_implies, false_implies, implies_true, forall_eq', forall_eq, decide_eq_true_eq, decide_eq_false_iff_not, Bool.not_eq_true', Bool.not_eq_false', Bool.not_eq_true, Bool.not_eq_false, decide_true, decide_false, Bool.not_true, Bool.not_false, Bool.false_eq_true, Bool.true_eq_false, reduceCtorEq, CmpO, cmpX_eqI, cmpX_neI, cmpX_lt, cmpX_le, cmpX_gt, cmpX_ge, cmpX_eqS, cmpX_neS, cmpX_isN, cmpX_notN, cmpX_isB, PlusO, IntO, TimesO, turn_nx, turn_ct, turn_bk, turn_rt, wipeR, eq_self, not_true_eq_false, not_false_eq_true, ite_true, ite_false, if_true, if_false, ne_eq, qd0, List.map_cons, List.map_nil, List.length_cons, List.length_nil, List.replicate_succ, List.replicate_zero, List.cons_append, List.nil_append, Nat.reduceAdd, Nat.reduceSub, Nat.reduceMul, endW_rt, endW_nx, finR, isSh, IxO, seqT_shL, seqT_shT, seqT_lst, seqT_tup, atI_map, atI_c0, atI_c1, atI_c2, CE.plainC, Option.map_eq_some_iff, lenT_shL, lenT_shT, lenT_lst, lenT_tup, lenT_str, lenT_scr, lstOf_scr, tupOf_scr, T.scr.injEq, toD_scr, List.length_map, intD_int, intD_bool, max2_int, min2_int, truO_bool, truO_int, truO_list, truO_tuple, truO_none, isNone_int, isNone_none, isNone_list, isNone_tuple, isNone_str, isNone_bool, map_int_inj, qf0, qh0, SlO, Op2.C, Op2.g, Int.reduceToNat, Bk1.D, Bk2.D, atom_int, atom_bool, atom_none, atom_str, ↓uRepr_wp, ↓uRepr_pl, ↓uList_wp, ↓uList_pl, ↓uTuple_wp, ↓uTuple_pl, ↓uSorted_wp, ↓uSorted_pl, ↓uAbs_wp, ↓uAbs_pl, ↓uRev_wp, ↓uRev_pl, ↓uIsSeq_wp, ↓uIsSeq_pl, ↓bTo_wp, ↓bTo_pre, ↓bFrom_wp, ↓bFrom_pre, ↓iZip_wp, ↓bCount_wp, ↓bCount_pre, ↓bIndex_wp, ↓bIndex_pre, ↓bDivmod_wp, ↓bDivmod_pre, ↓iRange2_wp, ↓iRange3_wp, ↓bGetD_pre, ↓uListRange_wp, ↓uListRange_pl, ↓bListRange_wp, ↓bListRange_pre, ↓sRaise_wp, ↓nDict0_wp, ↓nDict0_pl, ↓iZipS_wp, ↓iZip3_wp, ↓iEnumL_wp, ↓uSumT_wp, ↓uSumT_pl, ↓tListStar_wp, ↓tListStar_pre, ↓uLen_wp, ↓uLen_pl, ↓uIsInt_wp, ↓uIsInt_pl, ↓uIsBool_wp, ↓uIsBool_pl, ↓uIsStr_wp, ↓uIsStr_pl, ↓uIsList_wp, ↓uIsList_pl, ↓uIsTuple_wp, ↓uIsTuple_pl, ↓bGetD_wp, seqT_of er]
          have ec : ∀ Q : Bool → Prop, CmpX .Eq (.int c) b Q = Q (PyData.eqv (.int c) b) := fun Q => by
            rcases hb with rfl | ⟨i, rfl⟩
            · exact propext ⟨fun h => h.2.2, fun h => ⟨rfl, rfl, h⟩⟩
            · exact propext ⟨fun h => h.2.2, fun h => ⟨rfl, rfl, h⟩⟩
          simp (config := {maxSteps := 2000000}) only [↓wpS, ↓wp1, ↓wpV, ↓wpO, ↓wpT, ↓wpL, ↓wpA, ↓wpI, ↓wpTg_name, ↓andThen, ↓rdVar, ↓argVar, ↓mvVar, ↓callW, qg0, qb0, Option.map_some, Option.map_none, view_tmp, view_var, tree_tmp, tree_var, lst_tmp, lst_var, tup_tmp, tup_var, toD_sh, toD_shs, toD_shsT, toD_lnil, shs_nil', lstOf_shL, lstOf_lst, tupOf_shT, tupOf_tup, lstOf_int, tupOf_int, lstOf_tupD, tupOf_lstD, lstOf_tup, tupOf_lst, lstOf_str, tupOf_str, shs_map, shs_cons, List.set_cons_succ, List.set_cons_zero, List.getElem?_cons_zero, List.getElem?_cons_succ, Option.join_some, Option.bind_some, Option.bind_none, Option.some.injEq, Prod.mk.injEq, T.sh.injEq, T.lst.injEq, T.tup.injEq, T.dct.injEq, PyData.int.injEq, PyData.str.injEq, PyData.bool.injEq, PyData.list.injEq, PyData.tuple.injEq, List.cons.injEq, exists_eq_left', exists_eq_left, exists_and_left, exists_and_right, exists_eq', exists_eq, exists_const, and_assoc, true_and, and_true, false_and, and_false, or_false, false_or, exists_false, true_implies, false_implies, implies_true, forall_eq', forall_eq, decide_eq_true_eq, decide_eq_false_iff_not, Bool.not_eq_true', Bool.not_eq_false', Bool.not_eq_true, Bool.not_eq_false, decide_true, decide_false, Bool.not_true, Bool.not_false, Bool.false_eq_true, Bool.true_eq_false, reduceCtorEq, CmpO, cmpX_eqI, cmpX_neI, cmpX_lt, cmpX_le, cmpX_gt, cmpX_ge, cmpX_eqS, cmpX_neS, cmpX_isN, cmpX_notN, cmpX_isB, PlusO, IntO, TimesO, turn_nx, turn_ct, turn_bk, turn_rt, wipeR, eq_self, not_true_eq_false, not_false_eq_true, ite_true, ite_false, if_true, if_false, ne_eq, qd0, List.map_cons, List.map_nil, List.length_cons, List.length_nil, List.replicate_succ, List.replicate_zero, List.cons_append, List.nil_append, Nat.reduceAdd, Nat.reduceSub, Nat.reduceMul, endW_rt, endW_nx, finR, isSh, IxO, seqT_shL, seqT_shT, seqT_lst, seqT_tup, atI_map, atI_c0, atI_c1, atI_c2, CE.plainC, Option.map_eq_some_iff, lenT_shL, lenT_shT, lenT_lst, lenT_tup, lenT_str, lenT_scr, lstOf_scr, tupOf_scr, T.scr.injEq, toD_scr, List.length_map, intD_int, intD_bool, max2_int, min2_int, truO_bool, truO_int, truO_list, truO_tuple, truO_none, isNone_int, isNone_none, isNone_list, isNone_tuple, isNone_str, isNone_bool, map_int_inj, qf0, qh0, SlO, Op2.C, Op2.g, Int.reduceToNat, Bk1.D, Bk2.D, atom_int, atom_bool, atom_none, atom_str, ↓uRepr_wp, ↓uRepr_pl, ↓uList_wp, ↓uList_pl, ↓uTuple_wp, ↓uTuple_pl, ↓uSorted_wp, ↓uSorted_pl, ↓uAbs_wp, ↓uAbs_pl, ↓uRev_wp, ↓uRev_pl, ↓uIsSeq_wp, ↓uIsSeq_pl, ↓bTo_wp, ↓bTo_pre, ↓bFrom_wp, ↓bFrom_pre, ↓iZip_wp, ↓bCount_wp, ↓bCount_pre, ↓bIndex_wp, ↓bIndex_pre, ↓bDivmod_wp, ↓bDivmod_pre, ↓iRange2_wp, ↓iRange3_wp, ↓bGetD_pre, ↓uListRange_wp, ↓uListRange_pl, ↓bListRange_wp, ↓bListRange_pre, ↓sRaise_wp, ↓nDict0_wp, ↓nDict0_pl, ↓iZipS_wp, ↓iZip3_wp, ↓iEnumL_wp, ↓uSumT_wp, ↓uSumT_pl, ↓tListStar_wp, ↓tListStar_pre, ↓uLen_wp, ↓uLen_pl, ↓uIsInt_wp, ↓uIsInt_pl, ↓uIsBool_wp, ↓uIsBool_pl, ↓uIsStr_wp, ↓uIsStr_pl, ↓uIsList_wp, ↓uIsList_pl, ↓uIsTuple_wp, ↓uIsTuple_pl, ↓bGetD_wp, ec]
          cases eb : PyData.eqv (.int c) b with
          | true => simpa [eb] using h
          | false =>
            simp (config := {maxSteps := 2000000}) only [↓wpS, ↓wp1, ↓wpV, ↓wpO, ↓wpT, ↓wpL, ↓wpA, ↓wpI, ↓wpTg_name, ↓andThen, ↓rdVar, ↓argVar, ↓mvVar, ↓callW, qg0, qb0, Option.map_some, Option.map_none, view_tmp, view_var, tree_tmp, tree_var, lst_tmp, lst_var, tup_tmp, tup_var, toD_sh, toD_shs, toD_shsT, toD_lnil, shs_nil', lstOf_shL, lstOf_lst, tupOf_shT, tupOf_tup, lstOf_int, tupOf_int, lstOf_tupD, tupOf_lstD, lstOf_tup, tupOf_lst, lstOf_str, tupOf_str, shs_map, shs_cons, List.set_cons_succ, List.set_cons_zero, List.getElem?_cons_zero, List.getElem?_cons_succ, Option.join_some, Option.bind_some, Option.bind_none, Option.some.injEq, Prod.mk.injEq, T.sh.injEq, T.lst.injEq, T.tup.injEq, T.dct.injEq, PyData.int.injEq, PyData.str.injEq, PyData.bool.injEq, PyData.list.injEq, PyData.tuple.injEq, List.cons.injEq, exists_eq_left', exists_eq_left, exists_and_left, exists_and_right, exists_eq', exists_eq, exists_const, and_assoc, true_and, and_true, false_and, and_false, or_false, false_or, exists_false, true_implies, false_implies, implies_true, forall_eq', forall_eq, decide_eq_true_eq, decide_eq_false_iff_not, Bool.not_eq_true', Bool.not_eq_false', Bool.not_eq_true, Bool.not_eq_false, decide_true, decide_false, Bool.not_true, Bool.not_false, Bool.false_eq_true, Bool.true_eq_false, reduceCtorEq, CmpO, cmpX_eqI, cmpX_neI, cmpX_lt, cmpX_le, cmpX_gt, cmpX_ge, cmpX_eqS, cmpX_neS, cmpX_isN, cmpX_notN, cmpX_isB, PlusO, IntO, TimesO, turn_nx, turn_ct, turn_bk, turn_rt, wipeR, eq_self, not_true_eq_false, not_false_eq_true, ite_true, ite_false, if_true, if_false, ne_eq, qd0, List.map_cons, List.map_nil, List.length_cons, List.length_nil, List.replicate_succ, List.replicate_zero, List.cons_append, List.nil_append, Nat.reduceAdd, Nat.reduceSub, Nat.reduceMul, endW_rt, endW_nx, finR, isSh, IxO, seqT_shL, seqT_shT, seqT_lst, seqT_tup, atI_map, atI_c0, atI_c1, atI_c2, CE.plainC, Option.map_eq_some_iff, lenT_shL, lenT_shT, lenT_lst, lenT_tup, lenT_str, lenT_scr, lstOf_scr, tupOf_scr, T.scr.injEq, toD_scr, List.length_map, intD_int, intD_bool, max2_int, min2_int, truO_bool, truO_int, truO_list, truO_tuple, truO_none, isNone_int, isNone_none, isNone_list, isNone_tuple, isNone_str, isNone_bool, map_int_inj, qf0, qh0, SlO, Op2.C, Op2.g, Int.reduceToNat, Bk1.D, Bk2.D, atom_int, atom_bool, atom_none, atom_str, ↓uRepr_wp, ↓uRepr_pl, ↓uList_wp, ↓uList_pl, ↓uTuple_wp, ↓uTuple_pl, ↓uSorted_wp, ↓uSorted_pl, ↓uAbs_wp, ↓uAbs_pl, ↓uRev_wp, ↓uRev_pl, ↓uIsSeq_wp, ↓uIsSeq_pl, ↓bTo_wp, ↓bTo_pre, ↓bFrom_wp, ↓bFrom_pre, ↓iZip_wp, ↓bCount_wp, ↓bCount_pre, ↓bIndex_wp, ↓bIndex_pre, ↓bDivmod_wp, ↓bDivmod_pre, ↓iRange2_wp, ↓iRange3_wp, ↓bGetD_pre, ↓uListRange_wp, ↓uListRange_pl, ↓bListRange_wp, ↓bListRange_pre, ↓sRaise_wp, ↓nDict0_wp, ↓nDict0_pl, ↓iZipS_wp, ↓iZip3_wp, ↓iEnumL_wp, ↓uSumT_wp, ↓uSumT_pl, ↓tListStar_wp, ↓tListStar_pre, ↓uLen_wp, ↓uLen_pl, ↓uIsInt_wp, ↓uIsInt_pl, ↓uIsBool_wp, ↓uIsBool_pl, ↓uIsStr_wp, ↓uIsStr_pl, ↓uIsList_wp, ↓uIsList_pl, ↓uIsTuple_wp, ↓uIsTuple_pl, ↓bGetD_wp]
            exact hK _ ⟨.int c, _, rfl, .inr ⟨c, rfl⟩, by simpa [eb] using h⟩
      · obtain ⟨b, x, rfl, hb, h⟩ := h
        simp (config := {maxSteps := 2000000}) only [↓wpS, ↓wp1, ↓wpV, ↓wpO, ↓wpT, ↓wpL, ↓wpA, ↓wpI, ↓wpTg_name, ↓andThen, ↓rdVar, ↓argVar, ↓mvVar, ↓callW, qg0, qb0, Option.map_some, Option.map_none, view_tmp, view_var, tree_tmp, tree_var, lst_tmp, lst_var, tup_tmp, tup_var, toD_sh, toD_shs, toD_shsT, toD_lnil, shs_nil', lstOf_shL, lstOf_lst, tupOf_shT, tupOf_tup, lstOf_int, tupOf_int, lstOf_tupD, tupOf_lstD, lstOf_tup, tupOf_lst, lstOf_str, tupOf_str, shs_map, shs_cons, List.set_cons_succ, List.set_cons_zero, List.getElem?_cons_zero, List.getElem?_cons_succ, Option.join_some, Option.bind_some, Option.bind_none, Option.some.injEq, Prod.mk.injEq, T.sh.injEq, T.lst.injEq, T.tup.injEq, T.dct.injEq, PyData.int.injEq, PyData.str.injEq, PyData.bool.injEq, PyData.list.injEq, PyData.tuple.injEq, List.cons.injEq, exists_eq_left', exists_eq_left, exists_and_left, exists_and_right, exists_eq', exists_eq, exists_const, and_assoc, true_and, and_true, false_and, and_false, or_false, false_or, exists_false, true_implies, false_implies, implies_true, forall_eq', forall_eq, decide_eq_true_eq, decide_eq_false_iff_not, Bool.not_eq_true', Bool.not_eq_false', Bool.not_eq_true, Bool.not_eq_false, decide_true, decide_false, Bool.not_true, Bool.not_false, Bool.false_eq_true, Bool.true_eq_false, reduceCtorEq, CmpO, cmpX_eqI, cmpX_neI, cmpX_lt, cmpX_le, cmpX_gt, cmpX_ge, cmpX_eqS, cmpX_neS, cmpX_isN, cmpX_notN, cmpX_isB, PlusO, IntO, TimesO, turn_nx, turn_ct, turn_bk, turn_rt, wipeR, eq_self, not_true_eq_false, not_false_eq_true, ite_true, ite_false, if_true, if_false, ne_eq, qd0, List.map_cons, List.map_nil, List.length_cons, List.length_nil, List.replicate_succ, List.replicate_zero, List.cons_append, List.nil_append, Nat.reduceAdd, Nat.reduceSub, Nat.reduceMul, endW_rt, endW_nx, finR, isSh, IxO, seqT_shL, seqT_shT, seqT_lst, seqT_tup, atI_map, atI_c0, atI_c1, atI_c2, CE.plainC, Option.map_eq_some_iff, lenT_shL, lenT_shT, lenT_lst, lenT_tup, lenT_str, lenT_scr, lstOf_scr, tupOf_scr, T.scr.injEq, toD_scr, List.length_map, intD_int, intD_bool, max2_int, min2_int, truO_bool, truO_int, truO_list, truO_tuple, truO_none, isNone_int, isNone_none, isNone_list, isNone_tuple, isNone_str, isNone_bool, map_int_inj, qf0, qh0, SlO, Op2.C, Op2.g, Int.reduceToNat, Bk1.D, Bk2.D, atom_int, atom_bool, atom_none, atom_str, ↓uRepr_wp, ↓uRepr_pl, ↓uList_wp, ↓uList_pl, ↓uTuple_wp, ↓uTuple_pl, ↓uSorted_wp, ↓uSorted_pl, ↓uAbs_wp, ↓uAbs_pl, ↓uRev_wp, ↓uRev_pl, ↓uIsSeq_wp, ↓uIsSeq_pl, ↓bTo_wp, ↓bTo_pre, ↓bFrom_wp, ↓bFrom_pre, ↓iZip_wp, ↓bCount_wp, ↓bCount_pre, ↓bIndex_wp, ↓bIndex_pre, ↓bDivmod_wp, ↓bDivmod_pre, ↓iRange2_wp, ↓iRange3_wp, ↓bGetD_pre, ↓uListRange_wp, ↓uListRange_pl, ↓bListRange_wp, ↓bListRange_pre, ↓sRaise_wp, ↓nDict0_wp, ↓nDict0_pl, ↓iZipS_wp, ↓iZip3_wp, ↓iEnumL_wp, ↓uSumT_wp, ↓uSumT_pl, ↓tListStar_wp, ↓tListStar_pre, ↓uLen_wp, ↓uLen_pl, ↓uIsInt_wp, ↓uIsInt_pl, ↓uIsBool_wp, ↓uIsBool_pl, ↓uIsStr_wp, ↓uIsStr_pl, ↓uIsList_wp, ↓uIsList_pl, ↓uIsTuple_wp, ↓uIsTuple_pl, ↓bGetD_wp, kIsRecord0]
        exact h
    · have hl' : ¬ (ds.length : Int) ≤ 400 := by omega
      simp only [hl, decide_false, Bool.false_and] at q
      simp (config := {maxSteps := 2000000}) only [hl', ↓wpS, ↓wp1, ↓wpV, ↓wpO, ↓wpT, ↓wpL, ↓wpA, ↓wpI, ↓wpTg_name, ↓andThen, ↓rdVar, ↓argVar, ↓mvVar, ↓callW, qg0, qb0, Option.map_some, Option.map_none, view_tmp, view_var, tree_tmp, tree_var, lst_tmp, lst_var, tup_tmp, tup_var, toD_sh, toD_shs, toD_shsT, toD_lnil, shs_nil', lstOf_shL, lstOf_lst, tupOf_shT, tupOf_tup, lstOf_int, tupOf_int, lstOf_tupD, tupOf_lstD, lstOf_tup, tupOf_lst, lstOf_str, tupOf_str, shs_map, shs_cons, List.set_cons_succ, List.set_cons_zero, List.getElem?_cons_zero, List.getElem?_cons_succ, Option.join_some, Option.bind_some, Option.bind_none, Option.some.injEq, Prod.mk.injEq, T.sh.injEq, T.lst.injEq, T.tup.injEq, T.dct.injEq, PyData.int.injEq, PyData.str.injEq, PyData.bool.injEq, PyData.list.injEq, PyData.tuple.injEq, List.cons.injEq, exists_eq_left', exists_eq_left, exists_and_left, exists_and_right, exists_eq', exists_eq, exists_const, and_assoc, true_and, and_true, false_and, and_false, or_false, false_or, exists_false, true_implies, false_implies, implies_true, forall_eq', forall_eq, decide_eq_true_eq, decide_eq_false_iff_not, Bool.not_eq_true', Bool.not_eq_false', Bool.not_eq_true, Bool.not_eq_false, decide_true, decide_false, Bool.not_true, Bool.not_false, Bool.false_eq_true, Bool.true_eq_false, reduceCtorEq, CmpO, cmpX_eqI, cmpX_neI, cmpX_lt, cmpX_le, cmpX_gt, cmpX_ge, cmpX_eqS, cmpX_neS, cmpX_isN, cmpX_notN, cmpX_isB, PlusO, IntO, TimesO, turn_nx, turn_ct, turn_bk, turn_rt, wipeR, eq_self, not_true_eq_false, not_false_eq_true, ite_true, ite_false, if_true, if_false, ne_eq, qd0, List.map_cons, List.map_nil, List.length_cons, List.length_nil, List.replicate_succ, List.replicate_zero, List.cons_append, List.nil_append, Nat.reduceAdd, Nat.reduceSub, Nat.reduceMul, endW_rt, endW_nx, finR, isSh, IxO, seqT_shL, seqT_shT, seqT_lst, seqT_tup, atI_map, atI_c0, atI_c1, atI_c2, CE.plainC, Option.map_eq_some_iff, lenT_shL, lenT_shT, lenT_lst, lenT_tup, lenT_str, lenT_scr, lstOf_scr, tupOf_scr, T.scr.injEq, toD_scr, List.length_map, intD_int, intD_bool, max2_int, min2_int, truO_bool, truO_int, truO_list, truO_tuple, truO_none, isNone_int, isNone_none, isNone_list, isNone_tuple, isNone_str, isNone_bool, map_int_inj, qf0, qh0, SlO, Op2.C, Op2.g, Int.reduceToNat, Bk1.D, Bk2.D, atom_int, atom_bool, atom_none, atom_str, ↓uRepr_wp, ↓uRepr_pl, ↓uList_wp, ↓uList_pl, ↓uTuple_wp, ↓uTuple_pl, ↓uSorted_wp, ↓uSorted_pl, ↓uAbs_wp, ↓uAbs_pl, ↓uRev_wp, ↓uRev_pl, ↓uIsSeq_wp, ↓uIsSeq_pl, ↓bTo_wp, ↓bTo_pre, ↓bFrom_wp, ↓bFrom_pre, ↓iZip_wp, ↓bCount_wp, ↓bCount_pre, ↓bIndex_wp, ↓bIndex_pre, ↓bDivmod_wp, ↓bDivmod_pre, ↓iRange2_wp, ↓iRange3_wp, ↓bGetD_pre, ↓uListRange_wp, ↓uListRange_pl, ↓bListRange_wp, ↓bListRange_pre, ↓sRaise_wp, ↓nDict0_wp, ↓nDict0_pl, ↓iZipS_wp, ↓iZip3_wp, ↓iEnumL_wp, ↓uSumT_wp, ↓uSumT_pl, ↓tListStar_wp, ↓tListStar_pre, ↓uLen_wp, ↓uLen_pl, ↓uIsInt_wp, ↓uIsInt_pl, ↓uIsBool_wp, ↓uIsBool_pl, ↓uIsStr_wp, ↓uIsStr_pl, ↓uIsList_wp, ↓uIsList_pl, ↓uIsTuple_wp, ↓uIsTuple_pl, ↓bGetD_wp]
      exact q
end Oak
namespace Oak
open PySem PySem.Spec PyProof.Rows L2
open Tee (CmpD tyName zipD)
def kTotalsByRun0 : CSs := (.cons (.ret (.var 2)) .nil)
def lTotalsByRun1 : CSs := (.cons (.augD 1 (.var 3) (.var 4)) (.cons (.app 2 (.frz (.tup (.cons (.bin bGetD (.var 1) (.int 1)) (.cons (.bin bGetD (.var 1) (.int 0)) (.cons (.bin bGetD (.var 1) (.neg (.int 1))) .nil)))))) .nil))
def irTotalsByRun : CSs := (.cons (.set 1 (.dctC [(1, 0), (0, 0), (-1, 0)])) (.cons (.set 2 (.list (.cons (.frz (.tup (.cons (.int 0) (.cons (.int 0) (.cons (.int 0) .nil))))) .nil))) (.cons (.loop (.pair 3 4) (.seq (.var 0)) lTotalsByRun1) kTotalsByRun0)))
def irReadsToGo : CSs := (.cons (.unp3 3 4 5 (.var 2)) (.cons (.ife (.cmp .Eq (.var 0) (.int 1)) (.cons (.ret (.ife (.cmp .Eq (.var 1) (.int 0)) .non (.int 0))) .nil) .nil) (.cons (.ife (.cmp .Eq (.var 1) (.int 1)) (.cons (.ret .non) .nil) .nil) (.cons (.ife (.cmp .Eq (.var 1) (.int 0)) (.cons (.ret (.op .sub (.times (.op .sub (.var 0) (.int 2)) (.var 3)) (.var 4))) .nil) .nil) (.cons (.ret (.ife (.cmp .Eq (.var 0) (.int 2)) (.op .sub (.var 3) (.var 5)) (.op .sub (.op .fdiv (.var 4) (.op .sub (.var 0) (.int 2))) (.var 5)))) .nil)))))
def irWordOf : CSs := (.cons (.ife (.cmp .Lt (.var 0) (.int 3)) (.cons (.ret (.ife (.cmp .Eq (.var 0) (.int 1)) (.str "single") (.str "two"))) .nil) .nil) (.cons (.ret (.ife (.cmp .Eq (.var 1) (.int 0)) (.str "few") (.str "many"))) .nil))
def kFirstObstruction0 : CSs := (.cons (.ret .non) .nil)
def lFirstObstruction1 : CSs := (.cons (.set 5 (.call "reads_to_go" (.cons (.var 1) (.cons (.var 2) (.cons (.var 4) .nil))))) (.cons (.ife (.and (.cmp .IsNot (.var 5) .non) (.cmp .Gt (.var 3) (.var 5))) (.cons (.ret (.frz (.tup (.cons (.call "word_of" (.cons (.var 1) (.cons (.var 2) .nil))) (.cons (.plus (.plus (.un uSumT (.var 4)) (.var 5)) (.int 1)) .nil))))) .nil) .nil) .nil))
def irFirstObstruction : CSs := (.cons (.loop (.two (.pair 2 3) (.name 4)) (.its iZipS (.cons (.var 0) (.cons (.call "totals_by_run" (.cons (.var 0) .nil)) .nil))) lFirstObstruction1) kFirstObstruction0)
def irObstruction : CSs := (.cons (.expr (.call "require_record_and_readers" (.cons (.var 0) (.cons (.var 1) (.cons (.glob "MOST_POSSIBLE") .nil))))) (.cons (.ret (.call "first_obstruction" (.cons (.var 0) (.cons (.var 1) .nil)))) .nil))
def irIsPossible : CSs := (.cons (.ret (.cmp .Is (.call "obstruction" (.cons (.var 0) (.cons (.var 1) .nil))) .non)) .nil)
def eSmallNumbers0 : CE := (.var 1)
def tSmallNumbers1 : CE := (.cmp .Is (.call "first_obstruction" (.cons (.var 0) (.cons (.var 1) .nil))) .non)
def irSmallNumbers : CSs := (.cons (.ret (.lcIf eSmallNumbers0 (.name 1) (.tup (.frz (.tup (.cons (.int 1) (.cons (.int 2) .nil))))) tSmallNumbers1 [("readers", 1)])) .nil)
def kBoundsFromThree0 : CSs := (.cons (.ife (.and (.cmp .IsNot (.var 2) .non) (.cmp .Lt (.var 2) (.var 1))) (.cons (.ret .non) .nil) .nil) (.cons (.ret (.frz (.tup (.cons (.var 1) (.cons (.var 2) .nil))))) .nil))
def lBoundsFromThree1 : CSs := (.cons (.ife (.cmp .Gt (.var 3) (.int 0)) (.cons (.set 1 (.b2 .max2 (.var 1) (.op .sub (.int 2) (.op .fdiv (.neg (.var 4)) (.var 3))))) .nil) (.cons (.ife (.cmp .Gt (.var 4) (.int 0)) (.cons (.ret .non) .nil) .nil) .nil)) (.cons (.ife (.cmp .Gt (.var 5) (.int 0)) (.cons (.set 6 (.plus (.int 2) (.op .fdiv (.var 4) (.var 5)))) (.cons (.set 2 (.ife (.cmp .Is (.var 2) .non) (.var 6) (.b2 .min2 (.var 2) (.var 6)))) .nil)) .nil) .nil))
def irBoundsFromThree : CSs := (.cons (.set 1 (.int 3)) (.cons (.set 2 .non) (.cons (.loop (.triple 3 4 5) (.list (.call "totals_by_run" (.cons (.var 0) .nil))) lBoundsFromThree1) kBoundsFromThree0)))
def irPossibleReaders : CSs := (.cons (.expr (.call "require_record" (.cons (.var 0) .nil))) (.cons (.set 1 (.call "small_numbers" (.cons (.var 0) .nil))) (.cons (.set 2 (.call "bounds_from_three" (.cons (.var 0) .nil))) (.cons (.ife (.not (.var 1)) (.cons (.ret (.var 2)) .nil) .nil) (.cons (.set 3 (.ife (.cmp .Is (.var 2) .non) (.ix (.var 1) (.neg (.int 1))) (.ix (.var 2) (.int 1)))) (.cons (.ret (.frz (.tup (.cons (.ix (.var 1) (.int 0)) (.cons (.var 3) .nil))))) .nil))))))
abbrev Tr := Int × Int × Int
def step3 (c n : Int) (t : Tr) : Tr := if c = 1 then (t.1 + n, t.2.1, t.2.2) else if c = 0 then (t.1, t.2.1 + n, t.2.2) else (t.1, t.2.1, t.2.2 + n)
def tots : Tr → List (Int × Int) → List Tr
  | _, [] => []
  | t, (c, n) :: r => step3 c n t :: tots (step3 c n t) r
def fin3 : Tr → List (Int × Int) → Tr
  | t, [] => t
  | t, (c, n) :: r => fin3 (step3 c n t) r
def z3 : Tr := (0, 0, 0)
def p3 (t : Tr) : PyData := .tuple [.int t.1, .int t.2.1, .int t.2.2]
def d3 (t : Tr) : T := .dct (kys [1, 0, -1]) [.sh (.int t.1), .sh (.int t.2.1), .sh (.int t.2.2)]
def pairOf (d : PyData) (p : Int × Int) : Prop := seqB d = some [.int p.1, .int p.2]
def EncR (d : PyData) (rs : List (Int × Int)) : Prop := ∃ ds, seqB d = some ds ∧ Paired pairOf ds rs
def RunsOk (rs : List (Int × Int)) : Prop := rs.length ≤ 400 ∧ ∀ p ∈ rs, (p.1 = 1 ∨ p.1 = 0 ∨ p.1 = -1) ∧ 1 ≤ p.2 ∧ p.2 ≤ 10 ^ 30
theorem paired_len {α β : Type} {R : α → β → Prop} : ∀ {xs : List α} {ys : List β}, Paired R xs ys → xs.length = ys.length
  | _, _, .nil => rfl
  | _, _, .cons _ t => congrArg (· + 1) (paired_len t)
def TB (N : Int) (t : Tr) : Prop := 0 ≤ t.1 ∧ 0 ≤ t.2.1 ∧ 0 ≤ t.2.2 ∧ t.1 + t.2.1 + t.2.2 ≤ N
theorem TB.step {N c n : Int} {t : Tr} (h : TB N t) (h1 : 0 ≤ n) (h2 : n ≤ 10 ^ 30) : TB (N + 10 ^ 30) (step3 c n t) := by
  obtain ⟨a, b, c', d⟩ := h
  unfold step3
  split
  · exact ⟨by show 0 ≤ t.1 + n; omega, b, c', by show t.1 + n + t.2.1 + t.2.2 ≤ _; omega⟩
  · split
    · exact ⟨a, by show 0 ≤ t.2.1 + n; omega, c', by show t.1 + (t.2.1 + n) + t.2.2 ≤ _; omega⟩
    · exact ⟨a, b, by show 0 ≤ t.2.2 + n; omega, by show t.1 + t.2.1 + (t.2.2 + n) ≤ _; omega⟩
theorem k1 : kix [1, 0, -1] 1 = some 0 := rfl
theorem k0 : kix [1, 0, -1] 0 = some 1 := rfl
def wTbr : Wp := fun as Q _ => ∃ d rs, as = [.sh d] ∧ EncR d rs ∧ RunsOk rs ∧ Q (.sh (.list ((z3 :: tots z3 rs).map p3))) as
def rtg (k c : Int) (t : Tr) : Option Int := if k = 1 then (if c = 0 then none else some 0) else if c = 1 then none else if c = 0 then some ((k - 2) * t.1 - t.2.1) else if k = 2 then some (t.1 - t.2.2) else some (t.2.1 / (k - 2) - t.2.2)
def optI : Option Int → PyData
  | none => .none
  | some i => .int i
theorem sm_pow {x : Int} (h0 : 0 ≤ x) (h1 : x ≤ 10 ^ 40) : x.natAbs < 2 ^ 150 := by omega
def wRtg : Wp := fun as Q _ => ∃ k c t, as = [.sh (.int k), .sh (.int c), .sh (p3 t)] ∧ (1 ≤ k ∧ k ≤ 10 ^ 39) ∧ TB (10 ^ 34) t ∧ Q (.sh (optI (rtg k c t))) as
def wordS (k c : Int) : Str := if k < 3 then (if k = 1 then "single" else "two") else (if c = 0 then "few" else "many")
def wWord : Wp := fun as Q _ => ∃ k c, as = [.sh (.int k), .sh (.int c)] ∧ Q (.sh (.str (wordS k c))) as
def obsGo (k : Int) : Tr → List (Int × Int) → Option (Str × Int)
  | _, [] => none
  | t, (c, n) :: rs => match rtg k c t with
    | some m => if m < n then some (wordS k c, t.1 + t.2.1 + t.2.2 + m + 1) else obsGo k (step3 c n t) rs
    | none => obsGo k (step3 c n t) rs
def obsD : Option (Str × Int) → PyData
  | none => .none
  | some (w, n) => .tuple [.str w, .int n]
def wFobs : Wp := fun as Q _ => ∃ d rs k, as = [.sh d, .sh (.int k)] ∧ EncR d rs ∧ RunsOk rs ∧ (1 ≤ k ∧ k ≤ 10 ^ 39) ∧ Q (.sh (obsD (obsGo k z3 rs))) as
end Oak
namespace Oak
open PySem PySem.Spec PyProof.Rows L2
open Tee (CmpD tyName zipD)
def wRqd (c : Value) : Wp := fun as Q E => ∃ d, as = [.sh d] ∧ (recB d = true → Q (.sh .none) as) ∧ (recB d = false → E c none as)
def wRqrr (c c' : Value) : Wp := fun as Q E => ∃ d k n, as = [.sh d, .sh k, .sh (.int n)] ∧ (recB d = true → iibB k 1 n = true → Q (.sh .none) as) ∧ (recB d = false → E c none as) ∧ (recB d = true → iibB k 1 n = false → E c' none as)
def wObs (c c' : Value) : Wp := fun as Q E => ∃ d k, as = [.sh d, .sh k] ∧ (∀ rs i, recB d = true → EncR d rs → RunsOk rs → k = .int i → 1 ≤ i → i ≤ 10 ^ 39 → Q (.sh (obsD (obsGo i z3 rs))) as) ∧ (recB d = false → E c none as) ∧ (recB d = true → iibB k 1 (10 ^ 39) = false → E c' none as)
def wIsp (c c' : Value) : Wp := fun as Q E => ∃ d k, as = [.sh d, .sh k] ∧ (∀ rs i, recB d = true → EncR d rs → RunsOk rs → k = .int i → 1 ≤ i → i ≤ 10 ^ 39 → Q (.sh (.bool (obsGo i z3 rs).isNone)) as) ∧ (recB d = false → E c none as) ∧ (recB d = true → iibB k 1 (10 ^ 39) = false → E c' none as)
def smallL (rs : List (Int × Int)) : List Int := [1, 2].filter fun k => (obsGo k z3 rs).isNone
def wSmall : Wp := fun as Q _ => ∃ d rs, as = [.sh d] ∧ EncR d rs ∧ RunsOk rs ∧ Q (.lst ((smallL rs).map fun k => .sh (.int k))) as
def maxI (i j : Int) : Int := if j > i then j else i
def minI (i j : Int) : Int := if j < i then j else i
def bndG (g : Option Int) (t : Tr) : Option Int := if t.2.2 > 0 then some (match g with
  | none => 2 + t.2.1 / t.2.2
  | some g => minI g (2 + t.2.1 / t.2.2)) else g
def bndGo : Int → Option Int → List Tr → Option (Int × Option Int)
  | l, g, [] => match g with
    | some g' => if g' < l then none else some (l, some g')
    | none => some (l, none)
  | l, g, t :: ts => if t.1 > 0 then bndGo (maxI l (2 - (-t.2.1) / t.1)) (bndG g t) ts else if t.2.1 > 0 then none else bndGo l (bndG g t) ts
def bndD : Option (Int × Option Int) → PyData
  | none => .none
  | some (l, g) => .tuple [.int l, optI g]
def wBnd : Wp := fun as Q _ => ∃ d rs, as = [.sh d] ∧ EncR d rs ∧ RunsOk rs ∧ Q (.sh (bndD (bndGo 3 none (z3 :: tots z3 rs)))) as
theorem cdivw {i j : Int} (h0 : 0 < j) (h1 : j ≤ 10 ^ 40) : CDivW i j := wide_div (b := 150) h0 (sm_pow (by omega) h1) (by decide) (by decide)
def posL (rs : List (Int × Int)) : Option (Int × Option Int) := match smallL rs with
  | [] => bndGo 3 none (z3 :: tots z3 rs)
  | k :: ks => some (k, match bndGo 3 none (z3 :: tots z3 rs) with
    | none => some ((k :: ks).getLast (by simp))
    | some (_, g) => g)
def wPos (c : Value) : Wp := fun as Q E => ∃ d, as = [.sh d] ∧ (∀ rs, recB d = true → EncR d rs → RunsOk rs → Q (.sh (bndD (posL rs))) as) ∧ (recB d = false → E c none as)
end Oak
namespace Oak
open PySem PySem.Spec PyProof.Rows L2
open Tee (CmpD tyName zipD)
def kLawSpring0 : CSs := (.cons (.ret (.list (.cons (.var 1) (.cons (.var 2) (.cons (.int 0) .nil))))) .nil)
def lLawSpring1 : CSs := (.cons (.ife (.cmp .GtE (.un uAbs (.var 3)) (.op .pow (.int 10) (.int 18))) (.cons (.set 1 (.plus (.times (.var 1) (.op .pow (.int 10) (.int 60))) (.op .mod (.un uAbs (.var 3)) (.op .pow (.int 10) (.int 60))))) .nil) .nil) (.cons (.set 2 (.op .mod (.plus (.plus (.times (.var 2) (.int 69069)) (.op .mod (.var 3) (.int 2305843009213693921))) (.int 7)) (.int 2305843009213693951))) .nil))
def irLawSpring : CSs := (.cons (.set 1 (.int 0)) (.cons (.set 2 (.int 88651)) (.cons (.loop (.name 3) (.list (.bin bTo (.var 0) (.int 63))) lLawSpring1) kLawSpring0)))
def irLawDraw : CSs := (.cons (.ife (.cmp .Gt (.ix (.var 0) (.int 0)) (.int 0)) (.cons (.set 2 (.op .mod (.ix (.var 0) (.int 0)) (.var 1))) (.cons (.sto 0 (.op .fdiv (.ix (.var 0) (.int 0)) (.var 1)) (.int 0)) (.cons (.ret (.var 2)) .nil))) .nil) (.cons (.sto 0 (.plus (.ix (.var 0) (.int 2)) (.int 1)) (.int 2)) (.cons (.set 3 (.op .mod (.times (.ix (.var 0) (.int 1)) (.ix (.var 0) (.int 1))) (.int 2305843009213693951))) (.cons (.sto 0 (.op .mod (.plus (.plus (.var 3) (.times (.times (.int 7919) (.ix (.var 0) (.int 2))) (.ix (.var 0) (.int 1)))) (.int 104729)) (.int 2305843009213693951)) (.int 1)) (.cons (.ret (.op .mod (.op .fdiv (.ix (.var 0) (.int 1)) (.int 65537)) (.var 1))) .nil)))))
def SpOk (p : Int × Int × Int) : Prop := 0 ≤ p.1 ∧ p.1 < 10 ^ 3780 ∧ 0 ≤ p.2.1 ∧ p.2.1 < 2305843009213693951 ∧ 0 ≤ p.2.2
def spL (p : Int × Int × Int) : List T := [.sh (.int p.1), .sh (.int p.2.1), .sh (.int p.2.2)]
def wSpring : Wp := fun as Q _ => ∃ ns : List Int, as = [.scr ns] ∧ ∀ p, SpOk p → Q (.lst (spL p)) as
def wDraw : Wp := fun as Q _ => ∃ p m, as = [.lst (spL p), .sh (.int m)] ∧ SpOk p ∧ (1 ≤ m ∧ m ≤ 10 ^ 40) ∧ ∀ v p', SpOk p' → 0 ≤ v → v < m → Q (.sh (.int v)) [.lst (spL p'), .sh (.int m)]
end Oak
namespace Oak
open PySem PySem.Spec PyProof.Rows L2
open Tee (CmpD tyName zipD)
def kLawSame0 : CSs := (.cons (.ife (.or (.cmp .Is (.var 1) .non) (.cmp .Is (.var 0) .non)) (.cons (.ret (.and (.cmp .Is (.var 1) .non) (.cmp .Is (.var 0) .non))) .nil) .nil) (.cons (.ife (.or (.cmp .NotEq (.un uIsBool (.var 1)) (.un uIsBool (.var 0))) (.cmp .NotEq (.un uIsStr (.var 1)) (.un uIsStr (.var 0)))) (.cons (.ret (.bl false)) .nil) .nil) (.cons (.ret (.cmp .Eq (.var 0) (.var 1))) .nil)))
def eLawSame1 : CE := (.call "_law_same" (.cons (.ix (.var 0) (.var 2)) (.cons (.ix (.var 1) (.var 2)) .nil)))
def irLawSame : CSs := (.cons (.ife (.un uIsSeq (.var 1)) (.cons (.ife (.or (.cmp .NotEq (.un uIsList (.var 0)) (.un uIsList (.var 1))) (.cmp .NotEq (.un uIsTuple (.var 0)) (.un uIsTuple (.var 1)))) (.cons (.ret (.bl false)) .nil) .nil) (.cons (.ret (.and (.cmp .Eq (.un uLen (.var 0)) (.un uLen (.var 1))) (.b1 .all (.lc eLawSame1 (.name 2) (.range (.un uLen (.var 1))) [("k", 2)])))) .nil)) .nil) kLawSame0)
def kLawDressed0 : CSs := (.cons (.ret (.frz (.ife (.cmp .Eq (.call "_law_draw" (.cons (.var 0) (.cons (.int 2) .nil))) (.int 0)) (.var 3) (.un uTuple (.var 3))))) .nil)
def eLawDressed1 : CE := (.call "_law_dressed" (.cons (.var 0) (.cons (.var 2) .nil)))
def irLawDressed : CSs := (.cons (.ife (.not (.un uIsSeq (.var 1))) (.cons (.ret (.var 1)) .nil) .nil) (.cons (.setLc 3 eLawDressed1 (.name 2) (.seq (.var 1)) [("part", 2)]) kLawDressed0))
def dOk : Nat → PyData → Bool
  | _, .none => true
  | _, .int _ => true
  | _, .bool _ => true
  | _, .str s => PyData.strOk s
  | n + 1, .list xs => decide (xs.length ≤ 1000000) && xs.all (dOk n)
  | n + 1, .tuple xs => decide (xs.length ≤ 1000000) && xs.all (dOk n)
  | _, _ => false
def wSame (n : Nat) : Wp := fun as Q _ => ∃ d, as = [.sh d, .sh d] ∧ dOk n d = true ∧ Q (.sh (.bool true)) as
def Dr : Nat → PyData → PyData → Prop
  | 0, d, r => r = d
  | n + 1, d, r => match seqB d with
    | some ds => ∃ rs, seqB r = some rs ∧ Paired (Dr n) ds rs
    | none => r = d
def wDressed (n : Nat) : Wp := fun as Q _ => ∃ p d, as = [.lst (spL p), .sh d] ∧ SpOk p ∧ dOk n d = true ∧ ∀ p' r, SpOk p' → Dr n d r → Q (.sh r) [.lst (spL p'), .sh d]
theorem paired_snoc {α β : Type} {R : α → β → Prop} : ∀ {xs : List α} {ys : List β} {x : α} {y : β}, Paired R xs ys → R x y → Paired R (xs ++ [x]) (ys ++ [y])
  | _, _, _, _, .nil, h => .cons h .nil
  | _, _, _, _, .cons a t, h => .cons a (paired_snoc t h)
end Oak
namespace Oak
open PySem PySem.Spec PyProof.Rows L2
open Tee (CmpD tyName zipD)
def kLawRecord0 : CSs := (.cons (.ret (.var 1)) .nil)
def lLawRecord1 : CSs := (.cons (.ife (.and (.cmp .NotEq (.var 1) (.list .nil)) (.cmp .Eq (.ix (.ix (.var 1) (.neg (.int 1))) (.int 0)) (.var 2))) (.cons (.sto 1 (.frz (.tup (.cons (.var 2) (.cons (.plus (.ix (.ix (.var 1) (.neg (.int 1))) (.int 1)) (.int 1)) .nil)))) (.neg (.int 1))) .nil) (.cons (.app 1 (.frz (.tup (.cons (.var 2) (.cons (.int 1) .nil))))) .nil)) .nil)
def irLawRecord : CSs := (.cons (.set 1 (.list .nil)) (.cons (.loop (.name 2) (.seq (.var 0)) lLawRecord1) kLawRecord0))
def kLawNext0 : CSs := (.cons (.ret (.var 2)) .nil)
def bLawNext1 : CSs := (.cons (.set 5 (.ife (.cmp .Eq (.var 3) (.int 0)) (.int 0) (.op .sub (.toInt (.cmp .Eq (.var 4) (.int 0))) (.toInt (.cmp .Eq (.var 4) (.var 3)))))) (.cons (.ife (.cmp .Eq (.var 5) (.var 1)) (.cons (.app 2 (.frz (.tup (.cons (.var 4) (.cons (.plus (.plus (.bin bTo (.var 0) (.var 4)) (.list (.cons (.plus (.ix (.var 0) (.var 4)) (.int 1)) .nil))) (.bin bFrom (.var 0) (.plus (.var 4) (.int 1)))) .nil))))) .nil) .nil) .nil))
def lLawNext2 : CSs := (.cons (.ife (.or (.cmp .Eq (.var 4) (.int 0)) (.cmp .Lt (.ix (.var 0) (.var 4)) (.ix (.var 0) (.op .sub (.var 4) (.int 1))))) bLawNext1 .nil) .nil)
def irLawNext : CSs := (.cons (.par 2 3 (.list .nil) (.op .sub (.un uLen (.var 0)) (.int 1))) (.cons (.loop (.name 4) (.range (.un uLen (.var 0))) lLawNext2) kLawNext0))
theorem depthAll_le {b : Nat} : ∀ {xs : List PyData}, (∀ x ∈ xs, x.depth ≤ b) → PyData.depthAll xs ≤ b
  | [], _ => Nat.zero_le _
  | x :: xs, h => by
    rw [PyData.depthAll]
    exact Nat.max_le.mpr ⟨h x List.mem_cons_self, depthAll_le fun y hy => h y (List.mem_cons_of_mem _ hy)⟩
theorem depth_list {b : Nat} {xs : List PyData} (h : ∀ x ∈ xs, x.depth ≤ b) : (PyData.list xs).depth ≤ b + 1 := by
  rw [PyData.depth]; exact Nat.succ_le_succ (depthAll_le h)
theorem pl_list {xs : List PyData} (h : ∀ x ∈ xs, plD x = true) : plD (.list xs) = true := by rw [plD]; exact plDs_iff.mpr h
def t2 (p : Int × Int) : PyData := .tuple [.int p.1, .int p.2]
theorem t2_inj {p q : Int × Int} : t2 p = t2 q ↔ p = q := by
  obtain ⟨a, b⟩ := p
  obtain ⟨c, d⟩ := q
  simp [t2]
theorem pl_t2 (p : Int × Int) : plD (t2 p) = true := by simp [t2, plD, plDs]
theorem depth_t2 (p : Int × Int) : (t2 p).depth ≤ 1 := by simp [t2, PyData.depth, PyData.depthAll]
theorem pl_t2s (ps : List (Int × Int)) : plD (.list (ps.map t2)) = true := pl_list fun x hx => by
  obtain ⟨p, _, rfl⟩ := List.mem_map.mp hx
  exact pl_t2 p
theorem depth_t2s (ps : List (Int × Int)) : (PyData.list (ps.map t2)).depth ≤ 64 := Nat.le_trans (depth_list (b := 1) fun x hx => by
  obtain ⟨p, _, rfl⟩ := List.mem_map.mp hx
  exact depth_t2 p) (by decide)
theorem cmpX_neNil {ds : List PyData} (Q : Bool → Prop) (h : plD (.list ds) = true) (hd : (PyData.list ds).depth ≤ 64) : CmpX .NotEq (.list ds) (.list []) Q = Q (!ds.isEmpty) := by
  rw [cmpX_neP Q h rfl hd (by decide)]
  congr 1
  cases ds <;> simp
def rleStep (f : List (Int × Int)) (c : Int) : List (Int × Int) := match f.getLast? with
  | some p => if p.1 = c then f.dropLast ++ [(c, p.2 + 1)] else f ++ [(c, 1)]
  | none => [(c, 1)]
def rle (cs : List Int) : List (Int × Int) := cs.foldl rleStep []
def wLrec : Wp := fun as Q _ => ∃ cs : List Int, as = [.sh (.list (cs.map .int))] ∧ cs.length ≤ 400 ∧ Q (.sh (.list ((rle cs).map t2))) as
theorem goFor_upTo {tg : PyData → Rho → (Rho → Prop) → Prop} {body : Rho → (Out → Prop) → Prop} {R : Out → Prop} {n : Nat} (I : Nat → Rho → Prop)
    (step : ∀ i ρ, i < n → I i ρ → ∀ K : Rho → Prop, (∀ ρ2, I (i + 1) ρ2 → K ρ2) → tg (.int (i : Int)) ρ fun ρ1 => body ρ1 (turnO K R))
    (fin : ∀ ρ, I n ρ → R (.nx ρ)) {ρ : Rho} (h : I 0 ρ) : goFor tg body R (Tee.upTo n) ρ := by
  refine goFor_ind (fun rest ρ => ∃ i, i ≤ n ∧ rest = (List.range' i (n - i)).map (fun (j : Nat) => PyData.int (j : Int)) ∧ I i ρ) (fun d ds ρ h K hK => ?_) (fun ρ h => ?_) _ _ ⟨0, Nat.zero_le _, by unfold Tee.upTo; rw [List.range_eq_range', Nat.sub_zero], h⟩
  · obtain ⟨i, hi, e, h⟩ := h
    by_cases hlt : i < n
    · rw [show n - i = (n - (i + 1)) + 1 by omega, List.range'_succ] at e
      obtain ⟨rfl, rfl⟩ : d = .int (i : Int) ∧ ds = (List.range' (i + 1) (n - (i + 1))).map (fun (j : Nat) => PyData.int (j : Int)) := by simpa using e
      exact step i ρ hlt h K fun ρ2 h2 => hK ρ2 ⟨i + 1, hlt, rfl, h2⟩
    · rw [show n - i = 0 by omega] at e
      simp at e
  · obtain ⟨i, hi, e, h⟩ := h
    have : i = n := by
      by_cases hlt : i < n
      · rw [show n - i = (n - (i + 1)) + 1 by omega, List.range'_succ] at e
        simp at e
      · omega
    subst this
    exact fin ρ h
def chgR (k r : Nat) : Int := if k = 1 then 0 else (if r = 0 then 1 else 0) - (if r + 1 = k then 1 else 0)
def okR (s : List Int) (r : Nat) : Bool := r == 0 || decide (s.getD r 0 < s.getD (r - 1) 0)
def bump (s : List Int) (r : Nat) : List Int := s.take r ++ [s.getD r 0 + 1] ++ s.drop (r + 1)
def nextP (s : List Int) (c : Int) (r : Nat) : Bool := okR s r && decide (chgR s.length r = c)
def nextL (s : List Int) (c : Int) : List (Nat × List Int) := ((List.range s.length).filter (nextP s c)).map fun r => (r, bump s r)
def iL (s : List Int) : PyData := .list (s.map .int)
def nxD (p : Nat × List Int) : PyData := .tuple [.int (p.1 : Int), iL p.2]
def wNext : Wp := fun as Q _ => ∃ (s : List Int) (c : Int), as = [.sh (iL s), .sh (.int c)] ∧ 1 ≤ s.length ∧ s.length ≤ 400 ∧ Q (.sh (.list ((nextL s c).map nxD))) as
end Oak
namespace Oak
open PySem PySem.Spec PyProof.Rows L2
open Tee (CmpD tyName zipD)
def kLawLayers0 : CSs := (.cons (.ret (.ife (.cmp .NotEq (.ix (.var 2) (.int 0)) (.list .nil)) (.var 2) .non)) .nil)
def kLawLayers1 : CSs := (.cons (.sto 2 (.var 9) (.var 8)) .nil)
def eLawLayers2 : CE := (.var 7)
def tLawLayers3 : CE := (.cmp .In (.var 7) (.ix (.var 2) (.plus (.var 8) (.int 1))))
def lLawLayers4 : CSs := (.cons (.ife (.cmp .NotEq (.lcIf eLawLayers2 (.pair 6 7) (.list (.call "_law_next" (.cons (.var 5) (.cons (.ix (.var 1) (.var 8)) .nil)))) tLawLayers3 [("rank", 6), ("other", 7)]) (.list .nil)) (.cons (.app 9 (.var 5)) .nil) .nil) .nil)
def lLawLayers5 : CSs := (.cons (.set 9 (.list .nil)) (.cons (.loop (.name 5) (.list (.ix (.var 2) (.var 8))) lLawLayers4) kLawLayers1))
def kLawLayers6 : CSs := (.cons (.loop (.name 8) (.its iRange3 (.cons (.op .sub (.un uLen (.var 1)) (.int 1)) (.cons (.neg (.int 1)) (.cons (.neg (.int 1)) .nil)))) lLawLayers5) kLawLayers0)
def kLawLayers7 : CSs := (.cons (.app 2 (.var 4)) .nil)
def lLawLayers8 : CSs := (.cons (.ife (.cmp .NotIn (.var 7) (.var 4)) (.cons (.app 4 (.var 7)) .nil) .nil) .nil)
def lLawLayers9 : CSs := (.cons (.loop (.pair 6 7) (.list (.call "_law_next" (.cons (.var 5) (.cons (.var 3) .nil)))) lLawLayers8) .nil)
def lLawLayers10 : CSs := (.cons (.set 4 (.list .nil)) (.cons (.loop (.name 5) (.list (.ix (.var 2) (.neg (.int 1)))) lLawLayers9) kLawLayers7))
def irLawLayers : CSs := (.cons (.set 2 (.list (.cons (.frz (.list (.cons (.times (.list (.cons (.int 0) .nil)) (.var 0)) .nil))) .nil))) (.cons (.loop (.name 3) (.seq (.var 1)) lLawLayers10) kLawLayers6))
theorem iL_inj {a b : List Int} : iL a = iL b ↔ a = b := by
  unfold iL
  rw [PyData.list.injEq, map_int_inj]
theorem pl_iL (s : List Int) : plD (iL s) = true := pl_list fun x hx => by
  obtain ⟨i, _, rfl⟩ := List.mem_map.mp hx
  rfl
theorem depth_iL (s : List Int) : (iL s).depth ≤ 1 := depth_list (b := 0) fun x hx => by
  obtain ⟨i, _, rfl⟩ := List.mem_map.mp hx
  exact Nat.le_refl _
def layD (l : List (List Int)) : PyData := .list (l.map iL)
def Step (s : List Int) (c : Int) (t : List Int) : Prop := ∃ r, (r, t) ∈ nextL s c
def Path : List Int → List Int → List Int → Prop
  | s, [], t => t = s
  | s, c :: cs, t => ∃ u, Step s c u ∧ Path u cs t
theorem path_app {a b : List Int} : ∀ {s t : List Int}, Path s (a ++ b) t ↔ ∃ m, Path s a m ∧ Path m b t := by
  induction a with
  | nil => intro s t; exact ⟨fun h => ⟨s, rfl, h⟩, fun ⟨m, h1, h2⟩ => by rw [show m = s from h1] at h2; exact h2⟩
  | cons c a ih =>
    intro s t
    constructor
    · rintro ⟨u, h1, h2⟩
      obtain ⟨m, h3, h4⟩ := ih.mp h2
      exact ⟨m, ⟨u, h1, h3⟩, h4⟩
    · rintro ⟨m, ⟨u, h1, h3⟩, h4⟩
      exact ⟨u, h1, ih.mpr ⟨m, h3, h4⟩⟩
theorem path_one {s t : List Int} {c : Int} : Path s [c] t ↔ Step s c t := ⟨fun ⟨u, h1, h2⟩ => by rw [show t = u from h2]; exact h1, fun h => ⟨t, h, rfl⟩⟩
theorem nextL_iff {s t : List Int} {c : Int} {r : Nat} : (r, t) ∈ nextL s c ↔ r < s.length ∧ okR s r = true ∧ chgR s.length r = c ∧ t = bump s r := by
  unfold nextL
  rw [List.mem_map]
  constructor
  · rintro ⟨r', h1, e⟩
    cases e
    rw [List.mem_filter, List.mem_range] at h1
    have h2 := h1.2
    unfold nextP at h2
    rw [Bool.and_eq_true, decide_eq_true_eq] at h2
    exact ⟨h1.1, h2.1, h2.2, rfl⟩
  · rintro ⟨h1, h2, h3, rfl⟩
    exact ⟨r, List.mem_filter.mpr ⟨List.mem_range.mpr h1, by unfold nextP; rw [h2, h3]; simp⟩, rfl⟩
theorem bump_len {s : List Int} {r : Nat} (h : r < s.length) : (bump s r).length = s.length := by unfold bump; simp; omega
def drops : List Int → Nat
  | [] => 0
  | [_] => 0
  | a :: b :: s => (if b < a then 1 else 0) + drops (b :: s)
def Desc : List Int → Prop
  | [] => True
  | [a] => 0 ≤ a
  | a :: b :: s => b ≤ a ∧ Desc (b :: s)
theorem Desc.head : ∀ {a : Int} {s : List Int}, Desc (a :: s) → 0 ≤ a
  | _, [], h => h
  | _, _ :: _, h => Int.le_trans (Desc.head h.2) h.1
theorem drops_le : ∀ {a : Int} {s : List Int}, Desc (a :: s) → (drops (a :: s) : Int) ≤ a
  | _, [], h => h
  | a, b :: s, h => by
    have ih := drops_le h.2
    have h1 := h.1
    unfold drops
    split <;> omega
theorem Desc.of : ∀ {s : List Int}, (∀ i, i < s.length → 0 ≤ s.getD i 0) → (∀ i, i + 1 < s.length → s.getD (i + 1) 0 ≤ s.getD i 0) → Desc s
  | [], _, _ => trivial
  | [a], h, _ => h 0 (by simp)
  | a :: b :: s, h, h' => ⟨h' 0 (by simp), Desc.of (fun i hi => h (i + 1) (by simp at hi ⊢; omega)) fun i hi => h' (i + 1) (by simp at hi ⊢; omega)⟩
theorem Desc.nn : ∀ {s : List Int}, Desc s → ∀ i, i < s.length → 0 ≤ s.getD i 0
  | a :: s, h, 0, _ => Desc.head h
  | [a], h, i + 1, hi => by simp at hi
  | a :: b :: s, h, i + 1, hi => Desc.nn h.2 i (by simp at hi ⊢; omega)
  | [], _, i, hi => by simp at hi
theorem Desc.le : ∀ {s : List Int}, Desc s → ∀ i, i + 1 < s.length → s.getD (i + 1) 0 ≤ s.getD i 0
  | [], _, i, hi => by simp at hi
  | [a], _, i, hi => by simp at hi
  | a :: b :: s, h, 0, _ => h.1
  | a :: b :: s, h, i + 1, hi => Desc.le h.2 i (by simp at hi ⊢; omega)
theorem bump_set {s : List Int} {r : Nat} (h : r < s.length) : bump s r = s.set r (s.getD r 0 + 1) := by
  unfold bump
  rw [List.set_eq_take_append_cons_drop, if_pos h]
  simp
theorem getD_bump {s : List Int} {r : Nat} (h : r < s.length) (i : Nat) : (bump s r).getD i 0 = if i = r then s.getD r 0 + 1 else s.getD i 0 := by
  rw [bump_set h]
  simp only [List.getD, List.getElem?_set]
  by_cases h1 : r = i
  · subst h1; simp [h]
  · rw [if_neg h1, if_neg (fun e => h1 e.symm)]
theorem okR_iff {s : List Int} {r : Nat} : okR s r = true ↔ r = 0 ∨ s.getD r 0 < s.getD (r - 1) 0 := by
  unfold okR
  rw [Bool.or_eq_true, beq_iff_eq, decide_eq_true_eq]
theorem desc_bump {s : List Int} {r : Nat} (hs : Desc s) (h : r < s.length) (ho : okR s r = true) : Desc (bump s r) := by
  have hl := bump_len h
  refine Desc.of (fun i hi => ?_) fun i hi => ?_
  · rw [hl] at hi
    rw [getD_bump h]
    have := hs.nn i hi
    split
    · have := hs.nn r h; omega
    · exact this
  · rw [hl] at hi
    rw [getD_bump h, getD_bump h]
    have h1 := hs.le i hi
    rcases okR_iff.mp ho with h0 | h0
    · subst h0
      rw [if_neg (by omega)]
      split
      · rename_i e; subst e; omega
      · exact h1
    · by_cases e1 : i + 1 = r
      · subst e1
        rw [if_pos rfl, if_neg (by omega)]
        rw [show i + 1 - 1 = i by omega] at h0
        omega
      · rw [if_neg e1]
        split
        · rename_i e; subst e; omega
        · exact h1
theorem step_desc {s t : List Int} {c : Int} (hs : Desc s) (h : Step s c t) : Desc t := by
  obtain ⟨r, h⟩ := h
  obtain ⟨h1, h2, _, rfl⟩ := nextL_iff.mp h
  exact desc_bump hs h1 h2
theorem count_ok : ∀ (s : List Int) (b : Int), ((List.range s.length).filter fun r => decide (s.getD r 0 < (b :: s).getD r 0)).length = drops (b :: s)
  | [], _ => rfl
  | a :: s, b => by
    have ih := count_ok s a
    rw [List.length_cons, List.range_succ_eq_map, List.filter_cons]
    have e : (List.map Nat.succ (List.range s.length)).filter (fun r => decide ((a :: s).getD r 0 < (b :: a :: s).getD r 0)) = ((List.range s.length).filter fun r => decide (s.getD r 0 < (a :: s).getD r 0)).map Nat.succ := by
      rw [List.filter_map]
      rfl
    rw [e]
    unfold drops
    by_cases h : a < b
    · have h' : decide ((a :: s).getD 0 0 < (b :: a :: s).getD 0 0) = true := decide_eq_true h
      rw [if_pos h', if_pos h, List.length_cons, List.length_map, ih]; omega
    · have h' : decide ((a :: s).getD 0 0 < (b :: a :: s).getD 0 0) = false := decide_eq_false h
      rw [h', if_neg (by simp), if_neg h, List.length_map, ih]; omega
theorem nextL_len {s : List Int} (hs : Desc s) (c : Int) (N : Nat) (h : s.getD 0 0 ≤ N) : (nextL s c).length ≤ N + 1 := by
  unfold nextL
  rw [List.length_map]
  match s, hs, h with
  | [], _, _ => simp
  | a :: s, hs, h =>
    have h1 : ((List.range (a :: s).length).filter (nextP (a :: s) c)).length ≤ ((List.range (a :: s).length).filter fun r => decide ((a :: s).getD r 0 < ((a + 1) :: a :: s).getD r 0)).length := by
      rw [← List.countP_eq_length_filter, ← List.countP_eq_length_filter]
      refine List.countP_mono_left fun r _ hr => ?_
      unfold nextP at hr
      rw [Bool.and_eq_true] at hr
      rcases okR_iff.mp hr.1 with h0 | h0
      · subst h0; simp; omega
      · cases r with
        | zero => simp; omega
        | succ r => simpa using h0
    rw [count_ok] at h1
    have h2 := drops_le (a := a + 1) (s := a :: s) ⟨by omega, hs⟩
    simp at h
    omega
def zeros (k : Nat) : List Int := List.replicate k 0
theorem zeros_desc : ∀ k, Desc (zeros k)
  | 0 => trivial
  | 1 => Int.le_refl _
  | k + 2 => ⟨Int.le_refl _, zeros_desc (k + 1)⟩
theorem head_bump {s : List Int} {r : Nat} (h : r < s.length) : (bump s r).getD 0 0 ≤ s.getD 0 0 + 1 := by
  rw [getD_bump h]
  split
  · rename_i e; subst e; omega
  · omega
theorem path_head : ∀ {cs s t : List Int}, Path s cs t → t.getD 0 0 ≤ s.getD 0 0 + cs.length
  | [], _, _, h => by rw [show _ = _ from h]; simp
  | _ :: cs, s, t, ⟨u, ⟨r, h1⟩, h2⟩ => by
    obtain ⟨a, _, _, rfl⟩ := nextL_iff.mp h1
    have := path_head h2
    have := head_bump a
    rw [List.length_cons]
    omega
theorem path_desc : ∀ {cs s t : List Int}, Desc s → Path s cs t → Desc t
  | [], _, _, hs, h => by rw [show _ = _ from h]; exact hs
  | _ :: _, _, _, hs, ⟨u, h1, h2⟩ => path_desc (step_desc hs h1) h2
def fct : Nat → Nat
  | 0 => 1
  | n + 1 => (n + 1) * fct n
theorem fct_mono {m n : Nat} (h : m ≤ n) : fct m ≤ fct n := by
  induction h with
  | refl => exact Nat.le_refl _
  | step _ ih => exact Nat.le_trans ih (Nat.le_mul_of_pos_left _ (Nat.succ_pos _))
structure Lay (k : Nat) (cs : List Int) (l : List (List Int)) : Prop where
  mem : ∀ s, s ∈ l ↔ Path (zeros k) cs s
  nd : l.Nodup
  len : l.length ≤ fct cs.length
structure Mid (l1 : List (List Int)) (c : Int) (q : List (Nat × List Int)) (m : List (List Int)) (N : Nat) : Prop where
  mem : ∀ t, t ∈ m ↔ (∃ s ∈ l1, Step s c t) ∨ ∃ r, (r, t) ∈ q
  nd : m.Nodup
  len : m.length ≤ l1.length * N + q.length
theorem Mid.add {l1 : List (List Int)} {c : Int} {q : List (Nat × List Int)} {m : List (List Int)} {N r : Nat} {t : List Int} (h : Mid l1 c q m N) : Mid l1 c (q ++ [(r, t)]) (if t ∈ m then m else m ++ [t]) N := by
  have key : ∀ u, (∃ r', (r', u) ∈ q ++ [(r, t)]) ↔ (∃ r', (r', u) ∈ q) ∨ u = t := fun u => by
    simp only [List.mem_append, List.mem_singleton, Prod.mk.injEq]
    constructor
    · rintro ⟨r', h | ⟨_, h⟩⟩
      · exact .inl ⟨r', h⟩
      · exact .inr h
    · rintro (⟨r', h⟩ | h)
      · exact ⟨r', .inl h⟩
      · exact ⟨r, .inr ⟨rfl, h⟩⟩
  have hl := h.len
  split
  · rename_i ht
    refine ⟨fun u => ?_, h.nd, by simp; omega⟩
    rw [key, h.mem]
    constructor
    · rintro (a | a)
      · exact .inl a
      · exact .inr (.inl a)
    · rintro (a | a | a)
      · exact .inl a
      · exact .inr a
      · subst a; exact (h.mem _).mp ht
  · rename_i ht
    refine ⟨fun u => ?_, ?_, by simp; omega⟩
    · rw [List.mem_append, List.mem_singleton, key, h.mem, or_assoc]
    · rw [List.nodup_append]
      exact ⟨h.nd, by simp, fun a ha b hb => by rw [List.mem_singleton.mp hb]; exact fun e => ht (e ▸ ha)⟩
theorem Mid.next {l1 : List (List Int)} {c : Int} {s : List Int} {m : List (List Int)} {N : Nat} (h : Mid l1 c (nextL s c) m N) (hn : (nextL s c).length ≤ N) : Mid (l1 ++ [s]) c [] m N := by
  refine ⟨fun t => ?_, h.nd, ?_⟩
  · rw [h.mem]
    simp only [List.mem_append, List.mem_singleton, List.not_mem_nil, exists_false, or_false]
    constructor
    · rintro (⟨u, a, b⟩ | b)
      · exact ⟨u, .inl a, b⟩
      · exact ⟨s, .inr rfl, b⟩
    · rintro ⟨u, a | a, b⟩
      · exact .inl ⟨u, a, b⟩
      · subst a; exact .inr b
  · have := h.len
    rw [List.length_append, List.length_singleton, List.length_nil, Nat.add_mul]
    omega
theorem Mid.lay {k : Nat} {cs : List Int} {c : Int} {l m : List (List Int)} (hl : Lay k cs l) (h : Mid l c [] m (cs.length + 1)) : Lay k (cs ++ [c]) m := by
  refine ⟨fun t => ?_, h.nd, ?_⟩
  · rw [h.mem]
    simp only [List.not_mem_nil, exists_false, or_false]
    rw [path_app]
    constructor
    · rintro ⟨s, a, b⟩
      exact ⟨s, (hl.mem s).mp a, path_one.mpr b⟩
    · rintro ⟨s, a, b⟩
      exact ⟨s, (hl.mem s).mpr a, path_one.mp b⟩
  · have h1 := h.len
    have h2 := hl.len
    rw [List.length_append, List.length_singleton]
    unfold fct
    simp at h1
    have h3 : l.length * (cs.length + 1) ≤ fct cs.length * (cs.length + 1) := Nat.mul_le_mul_right _ h2
    rw [Nat.mul_comm (cs.length + 1)]
    omega
theorem Lay.next {k : Nat} {cs : List Int} {l : List (List Int)} (h : Lay k cs l) (c : Int) {s : List Int} (hs : s ∈ l) : (nextL s c).length ≤ cs.length + 1 := by
  have hp := (h.mem s).mp hs
  refine nextL_len (path_desc (zeros_desc k) hp) c cs.length ?_
  have := path_head hp
  have e : (zeros k).getD 0 0 = 0 := by cases k <;> rfl
  omega
structure Lays (k : Nat) (cs : List Int) (Ls : List (List (List Int))) : Prop where
  len : Ls.length = cs.length + 1
  mem : ∀ i, i ≤ cs.length → ∀ s, s ∈ Ls.getD i [] ↔ Path (zeros k) (cs.take i) s ∧ ∃ t, Path s (cs.drop i) t
  nd : ∀ i, (Ls.getD i []).Nodup
  sz : ∀ i, (Ls.getD i []).length ≤ fct cs.length
def wLayers : Wp := fun as Q _ => ∃ (k : Nat) (cs : List Int), as = [.sh (.int (k : Int)), .sh (.list (cs.map .int))] ∧ 1 ≤ k ∧ k ≤ 400 ∧ cs.length ≤ 10 ∧
  ∀ Ls, Lays k cs Ls → (Ls.getD 0 [] ≠ [] → Q (.sh (.list (Ls.map layD))) as) ∧ (Ls.getD 0 [] = [] → Q (.sh .none) as)
end Oak
namespace Oak
open PySem PySem.Spec PyProof.Rows L2
open Tee (CmpD tyName zipD)
structure FL (k : Nat) (cs1 : List Int) (Fs : List (List (List Int))) : Prop where
  len : Fs.length = cs1.length + 1
  lay : ∀ i, i ≤ cs1.length → Lay k (cs1.take i) (Fs.getD i [])
theorem FL.add {k : Nat} {cs1 : List Int} {Fs : List (List (List Int))} (h : FL k cs1 Fs) {c : Int} {m : List (List Int)} (hm : Lay k (cs1 ++ [c]) m) : FL k (cs1 ++ [c]) (Fs ++ [m]) := by
  have hl := h.len
  refine ⟨by simp [hl], fun i hi => ?_⟩
  by_cases e : i ≤ cs1.length
  · rw [List.take_append_of_le_length e]
    have := h.lay i e
    rwa [show (Fs ++ [m]).getD i [] = Fs.getD i [] from by
      simp only [List.getD]; rw [List.getElem?_append_left (by omega)]]
  · have : i = cs1.length + 1 := by simp at hi; omega
    subst this
    rw [List.take_of_length_le (by simp)]
    rwa [show (Fs ++ [m]).getD (cs1.length + 1) [] = m from by
      simp only [List.getD]; rw [List.getElem?_append_right (by omega), hl]; simp]
theorem goLc_filterM {α : Type} (e : α → PyData) (p : α → Bool) (g : α → T) {tg : PyData → Rho → (Rho → Prop) → Prop} {test : Rho → (Bool → Rho → Prop) → Prop} {el : Rho → (T → Rho → Prop) → Prop} {vs : List Nat} {Q : List T → Rho → Prop} {ρ0 : Rho} {xs : List α}
    (step : ∀ x ∈ xs, ∀ (K : T → Rho → Prop) (K' : Rho → Prop), (p x = true → ∀ ρ3, wipeR ρ3 vs = ρ0 → K (g x) ρ3) → (p x = false → ∀ ρ2, wipeR ρ2 vs = ρ0 → K' ρ2) → tg (e x) ρ0 fun ρ1 => test ρ1 fun k ρ2 => (k = true → el ρ2 K) ∧ (k = false → K' ρ2))
    (fin : Q ((xs.filter p).map g) ρ0) : goLc tg test el vs Q (xs.map e) [] ρ0 := by
  refine goLc_ind (fun ds acc ρ => ∃ x1 x2, xs = x1 ++ x2 ∧ ds = x2.map e ∧ acc = (x1.filter p).map g ∧ ρ = ρ0) (fun d ds acc ρ h K hK => ?_) (fun acc ρ h => ?_) _ _ _ ⟨[], xs, rfl, rfl, rfl, rfl⟩
  · obtain ⟨x1, x2, ex, ed, rfl, rfl⟩ := h
    match x2, ed with
    | x :: x2, ed =>
    obtain ⟨rfl, rfl⟩ : d = e x ∧ ds = x2.map e := by simpa using ed
    refine step x (by rw [ex]; simp) (fun t ρ3 => K ((x1.filter p).map g ++ [t]) (wipeR ρ3 vs)) (fun ρ2 => K ((x1.filter p).map g) (wipeR ρ2 vs)) (fun hp ρ3 h3 => ?_) (fun hp ρ2 h2 => ?_)
    · rw [h3]
      exact hK _ _ ⟨x1 ++ [x], x2, by rw [ex]; simp, rfl, by simp [hp], rfl⟩
    · rw [h2]
      exact hK _ _ ⟨x1 ++ [x], x2, by rw [ex]; simp, rfl, by simp [hp], rfl⟩
  · obtain ⟨x1, x2, ex, ed, rfl, rfl⟩ := h
    match x2, ed with
    | [], _ =>
    rw [List.append_nil] at ex
    subst ex
    exact fin
structure BL (k : Nat) (cs : List Int) (j : Nat) (Ls : List (List (List Int))) : Prop where
  len : Ls.length = cs.length + 1
  mem : ∀ i, i ≤ cs.length → ∀ s, s ∈ Ls.getD i [] ↔ Path (zeros k) (cs.take i) s ∧ (j ≤ i → ∃ t, Path s (cs.drop i) t)
  nd : ∀ i, (Ls.getD i []).Nodup
  sz : ∀ i, (Ls.getD i []).length ≤ fct cs.length
theorem FL.bl {k : Nat} {cs : List Int} {Fs : List (List (List Int))} (h : FL k cs Fs) (hcs : cs.length ≤ 10) : BL k cs cs.length Fs := by
  have out : ∀ i, ¬ i ≤ cs.length → Fs.getD i [] = [] := fun i hi => by
    have := h.len
    simp only [List.getD]; rw [List.getElem?_eq_none (by omega)]; rfl
  refine ⟨h.len, fun i hi s => ?_, fun i => ?_, fun i => ?_⟩
  · rw [(h.lay i hi).mem]
    refine ⟨fun a => ⟨a, fun b => ⟨s, ?_⟩⟩, fun a => a.1⟩
    rw [List.drop_eq_nil_of_le (by omega)]; rfl
  · by_cases e : i ≤ cs.length
    · exact (h.lay i e).nd
    · rw [out i e]; exact List.nodup_nil
  · by_cases e : i ≤ cs.length
    · refine Nat.le_trans (h.lay i e).len (fct_mono ?_)
      rw [List.length_take]; omega
    · rw [out i e]; exact Nat.zero_le _
def onP (L : List (List Int)) (c : Int) (s : List Int) : Bool := (nextL s c).any fun p => decide (p.2 ∈ L)
theorem BL.done {k : Nat} {cs : List Int} {Ls : List (List (List Int))} (h : BL k cs 0 Ls) : Lays k cs Ls := ⟨h.len, fun i hi s => by
  rw [h.mem i hi]
  exact ⟨fun ⟨a, b⟩ => ⟨a, b (Nat.zero_le _)⟩, fun ⟨a, b⟩ => ⟨a, fun _ => b⟩⟩, h.nd, h.sz⟩
end Oak
namespace Oak
open PySem PySem.Spec PyProof.Rows L2
open Tee (CmpD tyName zipD)
def kLawChanges0 : CSs := (.cons (.ret (.var 3)) .nil)
def kLawChanges1 : CSs := (.cons (.unp 8 4 (.ix (.var 7) (.call "_law_draw" (.cons (.var 0) (.cons (.un uLen (.var 7)) .nil))))) (.cons (.app 3 (.var 8)) .nil))
def eLawChanges2 : CE := (.frz (.tup (.cons (.var 8) (.cons (.var 10) .nil))))
def lLawChanges3 : CSs := (.cons (.ext 7 (.lc eLawChanges2 (.pair 9 10) (.list (.call "_law_next" (.cons (.var 4) (.cons (.var 8) .nil)))) [("rank", 9), ("other", 10)])) .nil)
def lLawChanges4 : CSs := (.cons (.ife (.cmp .Eq (.var 5) (.int 0)) (.cons (.app 3 (.ix (.list (.cons (.int 1) (.cons (.int 0) (.cons (.neg (.int 1)) .nil)))) (.call "_law_draw" (.cons (.var 0) (.cons (.int 3) .nil))))) (.cons .ct .nil)) .nil) (.cons (.set 7 (.list .nil)) (.cons (.loop (.name 8) (.list (.list (.cons (.int 1) (.cons (.int 0) (.cons (.neg (.int 1)) .nil))))) lLawChanges3) kLawChanges1)))
def irLawChanges : CSs := (.cons (.par 3 4 (.list .nil) (.frz (.times (.list (.cons (.int 0) .nil)) (.var 1)))) (.cons (.set 5 (.call "_law_draw" (.cons (.var 0) (.cons (.int 4) .nil)))) (.cons (.loop (.name 6) (.range (.call "_law_draw" (.cons (.var 0) (.cons (.plus (.var 2) (.int 1)) .nil)))) lLawChanges4) kLawChanges0)))
def nextD (c : Int) (s : List Int) : PyData := .tuple [.int c, iL s]
def wChanges : Wp := fun as Q _ => ∃ (p : Int × Int × Int) (k : Nat) (most : Int), as = [.lst (spL p), .sh (.int (k : Int)), .sh (.int most)] ∧ SpOk p ∧ 1 ≤ k ∧ k ≤ 400 ∧ 0 ≤ most ∧ most ≤ 400 ∧ ∀ (p' : Int × Int × Int) (cs : List Int), SpOk p' → cs.length ≤ most → (∀ c ∈ cs, c = 1 ∨ c = 0 ∨ c = -1) → Q (.sh (.list (cs.map .int))) [.lst (spL p'), .sh (.int (k : Int)), .sh (.int most)]
theorem goLc_mapM {α : Type} (e : α → PyData) (g : α → T) {tg : PyData → Rho → (Rho → Prop) → Prop} {el : Rho → (T → Rho → Prop) → Prop} {vs : List Nat} {Q : List T → Rho → Prop} {ρ0 : Rho} {xs : List α}
    (step : ∀ x ∈ xs, ∀ (K : T → Rho → Prop), (∀ ρ3, wipeR ρ3 vs = ρ0 → K (g x) ρ3) → tg (e x) ρ0 fun ρ1 => el ρ1 K)
    (fin : Q (xs.map g) ρ0) : goLc tg (fun ρ k => k true ρ) el vs Q (xs.map e) [] ρ0 := by
  refine goLc_ind (fun ds acc ρ => ∃ x1 x2, xs = x1 ++ x2 ∧ ds = x2.map e ∧ acc = x1.map g ∧ ρ = ρ0) (fun d ds acc ρ h K hK => ?_) (fun acc ρ h => ?_) _ _ _ ⟨[], xs, rfl, rfl, rfl, rfl⟩
  · obtain ⟨x1, x2, ex, ed, rfl, rfl⟩ := h
    match x2, ed with
    | x :: x2, ed =>
    obtain ⟨rfl, rfl⟩ : d = e x ∧ ds = x2.map e := by simpa using ed
    have h := step x (by rw [ex]; simp) (fun t ρ3 => K (x1.map g ++ [t]) (wipeR ρ3 vs)) (fun ρ3 h3 => by
      rw [h3]
      exact hK _ _ ⟨x1 ++ [x], x2, by rw [ex]; simp, rfl, by simp, rfl⟩)
    simpa using h
  · obtain ⟨x1, x2, ex, ed, rfl, rfl⟩ := h
    match x2, ed with
    | [], _ =>
    rw [List.append_nil] at ex
    subst ex
    exact fin
def nextAll (s : List Int) (c : Int) : List PyData := (nextL s c).map fun q => nextD c q.2
end Oak
namespace Oak
open PySem PySem.Spec PyProof.Rows L2
open Tee (CmpD tyName zipD)
def eLawDue0 : CE := (.var 1)
def tLawDue1 : CE := (.cmp .IsNot (.call "_law_layers" (.cons (.var 1) (.cons (.var 0) .nil))) .non)
def irLawDue : CSs := (.cons (.ret (.lcIf eLawDue0 (.name 1) (.its iRange2 (.cons (.int 1) (.cons (.plus (.un uLen (.var 0)) (.int 5)) .nil))) tLawDue1 [("readers", 1)])) .nil)
def Can (k : Nat) (cs : List Int) : Prop := ∃ t, Path (zeros k) cs t
open Classical in
noncomputable def dueL (cs : List Int) : List Nat := ((List.range (cs.length + 4)).filter fun j => decide (Can (j + 1) cs)).map (fun j => j + 1)
def wDue : Wp := fun as Q _ => ∃ cs : List Int, as = [.sh (.list (cs.map .int))] ∧ cs.length ≤ 8 ∧ Q (.lst ((dueL cs).map fun k : Nat => .sh (.int (k : Int)))) as
end Oak
namespace Oak
open PySem PySem.Spec PyProof.Rows L2
open Tee (CmpD tyName zipD)
def chg3 (c : Int) : Prop := c = 1 ∨ c = 0 ∨ c = -1
instance (c : Int) : Decidable (chg3 c) := by unfold chg3; infer_instance
def OkT (k : Int) (t : Tr) : Prop := if k = 1 then t.1 = 0 ∧ t.2.2 = 0 else if k = 2 then t.2.1 = 0 ∧ t.2.2 ≤ t.1 else t.2.1 ≤ (k - 2) * t.1 ∧ (k - 2) * t.2.2 ≤ t.2.1
instance (k : Int) (t : Tr) : Decidable (OkT k t) := by unfold OkT; infer_instance
def NN (t : Tr) : Prop := 0 ≤ t.1 ∧ 0 ≤ t.2.1 ∧ 0 ≤ t.2.2
def sum3 (t : Tr) : Int := t.1 + t.2.1 + t.2.2
def badAt (k : Int) : Tr → List Int → Option (Str × Int)
  | _, [] => none
  | t, c :: cs => if OkT k (step3 c 1 t) then badAt k (step3 c 1 t) cs else some (wordS k c, sum3 t + 1)
def expand (rs : List (Int × Int)) : List Int := rs.flatMap fun p => List.replicate p.2.toNat p.1
def RunsR (rs : List (Int × Int)) : Prop := ∀ p ∈ rs, chg3 p.1 ∧ 1 ≤ p.2 ∧ p.2 ≤ 10 ^ 30
def Alt : List (Int × Int) → Prop
  | [] => True
  | [_] => True
  | p :: q :: l => p.1 ≠ q.1 ∧ Alt (q :: l)
theorem alt_snoc : ∀ {f : List (Int × Int)} {p q : Int × Int}, Alt (f ++ [p]) → p.1 ≠ q.1 → Alt (f ++ [p] ++ [q])
  | [], p, q, _, h => ⟨h, trivial⟩
  | [a], p, q, h, h' => ⟨h.1, h', trivial⟩
  | a :: b :: f, p, q, h, h' => ⟨h.1, alt_snoc (f := b :: f) h.2 h'⟩
theorem alt_last : ∀ {f : List (Int × Int)} {p q : Int × Int}, Alt (f ++ [p]) → p.1 = q.1 → Alt (f ++ [q])
  | [], p, q, _, _ => trivial
  | [a], p, q, h, h' => ⟨h' ▸ h.1, trivial⟩
  | a :: b :: f, p, q, h, h' => ⟨h.1, alt_last (f := b :: f) h.2 h'⟩
theorem expand_app (a b : List (Int × Int)) : expand (a ++ b) = expand a ++ expand b := by unfold expand; rw [List.flatMap_append]
theorem expand_one (c n : Int) : expand [(c, n)] = List.replicate n.toNat c := by unfold expand; rw [List.flatMap_singleton]
structure RleOk (cs : List Int) (f : List (Int × Int)) : Prop where
  ex : expand f = cs
  alt : Alt f
  len : f.length ≤ cs.length
  cnt : ∀ p ∈ f, p.1 ∈ cs ∧ 1 ≤ p.2 ∧ p.2 ≤ cs.length
theorem RleOk.step {cs : List Int} {f : List (Int × Int)} (h : RleOk cs f) (c : Int) : RleOk (cs ++ [c]) (rleStep f c) := by
  have hl := h.len
  rcases List.eq_nil_or_concat f with rfl | ⟨f', p, e⟩
  · have : cs = [] := by have := h.ex; simpa [expand] using this.symm
    subst this
    exact ⟨rfl, trivial, Nat.le_refl _, fun p hp => by
      have : p = (c, 1) := by simpa [rleStep] using hp
      subst this; simp⟩
  · rw [List.concat_eq_append] at e
    subst e
    have es : rleStep (f' ++ [p]) c = if p.1 = c then f' ++ [(c, p.2 + 1)] else f' ++ [p] ++ [(c, 1)] := by
      unfold rleStep; simp
    rw [es]
    have hp := h.cnt p (by simp)
    have hx := h.ex
    have hc := h.cnt
    split
    · rename_i e
      refine ⟨?_, alt_last h.alt e, by simp at hl ⊢; omega, fun q hq => ?_⟩
      · rw [expand_app, expand_one] at hx ⊢
        obtain ⟨p1, p2⟩ := p
        simp only at e hp
        subst e
        rw [← hx, show (p2 + 1).toNat = p2.toNat + 1 by omega, List.replicate_succ', List.append_assoc]
      · rcases List.mem_append.mp hq with hq | hq
        · have := hc q (List.mem_append_left _ hq)
          refine ⟨List.mem_append_left _ this.1, this.2.1, ?_⟩
          have := this.2.2; simp; omega
        · rw [List.mem_singleton.mp hq]
          refine ⟨by simp, by simp; omega, ?_⟩
          have := hp.2.2; simp; omega
    · rename_i e
      refine ⟨?_, alt_snoc h.alt e, by simp at hl ⊢; omega, fun q hq => ?_⟩
      · rw [expand_app, hx, expand_one]; rfl
      · rcases List.mem_append.mp hq with hq | hq
        · have := hc q hq
          refine ⟨List.mem_append_left _ this.1, this.2.1, ?_⟩
          have := this.2.2; simp; omega
        · rw [List.mem_singleton.mp hq]
          exact ⟨by simp, by simp, by simp; omega⟩
def neB : List (Int × Int) → PyData → Prop
  | [], _ => True
  | p :: _, b => b ≠ .int p.1 ∧ (b = .none ∨ ∃ i, b = .int i)
theorem recGo_of : ∀ {ds : List PyData} {rs : List (Int × Int)} {b : PyData}, Paired pairOf ds rs → RunsR rs → Alt rs → neB rs b → recGo ds b = true
  | _, _, _, .nil, _, _, _ => rfl
  | d :: ds, p :: rs, b, .cons a t, hr, ha, hb => by
    have h0 := hr p List.mem_cons_self
    have e : seqB d = some [.int p.1, .int p.2] := a
    have ih := recGo_of (b := .int p.1) t (fun q hq => hr q (List.mem_cons_of_mem _ hq)) (by cases rs; exact trivial; exact ha.2) (by
      cases rs with
      | nil => trivial
      | cons q rs => exact ⟨fun e => ha.1 (by simpa using e), .inr ⟨_, rfl⟩⟩)
    unfold recGo
    rw [e]
    simp only [ih, Bool.and_true]
    have h1 : runB d = true := by
      unfold runB
      rw [e]
      obtain ⟨q1, q2, q3⟩ := h0
      have e1 : iibB (.int p.1) (-1) 1 = true := by
        rcases q1 with e | e | e <;> rw [e] <;> rfl
      have e2 : iibB (.int p.2) 1 (10 ^ 30) = true := by
        unfold iibB
        simp only []
        exact decide_eq_true ⟨q2, q3⟩
      show (iibB (.int p.1) (-1) 1 && iibB (.int p.2) 1 (10 ^ 30)) = true
      rw [e1, e2]; rfl
    have h2 : PyData.eqv (.int p.1) b = false := by
      obtain ⟨hb1, rfl | ⟨i, rfl⟩⟩ := hb
      · rfl
      · have : p.1 ≠ i := fun e => hb1 (by rw [e])
        simpa [PyData.eqv] using this
    rw [h1, h2]
    rfl
theorem recB_of {d : PyData} {rs : List (Int × Int)} (h : EncR d rs) (hr : RunsOk rs) (ha : Alt rs) : recB d = true := by
  obtain ⟨ds, e, hp⟩ := h
  unfold recB
  rw [e]
  show (decide (ds.length ≤ 400) && recGo ds .none) = true
  rw [recGo_of hp hr.2 ha (by cases rs; exact trivial; exact ⟨by simp, .inl rfl⟩), paired_len hp, decide_eq_true hr.1]
  rfl
theorem dr_enc {n : Nat} {rs : List (Int × Int)} {r : PyData} (h : Dr (n + 3) (.list (rs.map t2)) r) : EncR r rs := by
  obtain ⟨es, e, hp⟩ : ∃ es, seqB r = some es ∧ Paired (Dr (n + 2)) (rs.map t2) es := h
  refine ⟨es, e, ?_⟩
  clear e
  induction rs generalizing es with
  | nil => cases hp; exact .nil
  | cons p rs ih =>
    match es, hp with
    | d :: es, .cons a t =>
    refine .cons ?_ (ih es t)
    obtain ⟨us, e, hu⟩ : ∃ us, seqB d = some us ∧ Paired (Dr (n + 1)) [.int p.1, .int p.2] us := a
    match us, hu with
    | [u, v], .cons h1 (.cons h2 .nil) =>
    have e1 : u = .int p.1 := h1
    have e2 : v = .int p.2 := h2
    subst e1 e2
    exact e
theorem seq_fit {d : PyData} {ds : List PyData} (e : seqB d = some ds) : Tee.okD d = Tee.okAll ds ∧ Tee.siz d = Tee.sizAll ds + 3 ∧ d.depth = PyData.depthAll ds + 1 := by
  rcases seq_is e with rfl | rfl <;> exact ⟨by simp only [Tee.okD], by simp only [Tee.siz], by simp only [PyData.depth]⟩
theorem dr_fit : ∀ (n : Nat) {d r : PyData}, Dr n d r → Tee.okD r = Tee.okD d ∧ Tee.siz r = Tee.siz d ∧ r.depth = d.depth
  | 0, d, r, h => by rw [show r = d from h]; exact ⟨rfl, rfl, rfl⟩
  | n + 1, d, r, h => by
    unfold Dr at h
    cases e : seqB d with
    | none => rw [e] at h; rw [show r = d from h]; exact ⟨rfl, rfl, rfl⟩
    | some ds =>
      rw [e] at h
      obtain ⟨rs, e', hp⟩ := h
      obtain ⟨a1, a2, a3⟩ := seq_fit e
      obtain ⟨b1, b2, b3⟩ := seq_fit e'
      have all : ∀ {ds rs : List PyData}, Paired (Dr n) ds rs → Tee.okAll rs = Tee.okAll ds ∧ Tee.sizAll rs = Tee.sizAll ds ∧ PyData.depthAll rs = PyData.depthAll ds := by
        intro ds rs hp
        induction hp with
        | nil => exact ⟨rfl, rfl, rfl⟩
        | cons a t ih =>
          obtain ⟨c1, c2, c3⟩ := dr_fit n a
          obtain ⟨i1, i2, i3⟩ := ih
          exact ⟨by simp only [Tee.okAll, c1, i1], by simp only [Tee.sizAll, c2, i2], by simp only [PyData.depthAll, c3, i3]⟩
      obtain ⟨c1, c2, c3⟩ := all hp
      exact ⟨by rw [b1, c1, a1], by rw [b2, c2, a2], by rw [b3, c3, a3]⟩
theorem Fit.dr {n m k : Nat} {d r : PyData} (h : Tee.Fit d m k) (hd : Dr n d r) : Tee.Fit r m k := by
  obtain ⟨a, b, c⟩ := dr_fit n hd
  exact ⟨by rw [a]; exact h.ok, by rw [b]; exact h.sz, by rw [c]; exact h.dp⟩
theorem fit_t2s {rs : List (Int × Int)} (hr : RunsOk rs) : Tee.Fit (.list (rs.map t2)) 40000 2 := by
  have h : ∀ d ∈ rs.map t2, Tee.Fit d 89 1 := fun d hd => by
    obtain ⟨p, hp, rfl⟩ := List.mem_map.mp hd
    have := hr.2 p hp
    exact (Tee.Fit.tuple (Tee.FitA.cons (Tee.Fit.int (k := 0) (i := p.1) (by omega)) (Tee.FitA.cons (Tee.Fit.int (k := 0) (i := p.2) (by omega)) Tee.FitA.nil))).mono
  have := Tee.Fit.list (Tee.FitA.all h)
  rw [List.length_map] at this
  have hl := hr.1
  exact this.mono (by omega)
end Oak
namespace Oak
open PySem PySem.Spec PyProof.Rows L2
open Tee (CmpD tyName zipD)
theorem bump_cons (x : Int) (l : List Int) (r : Nat) : bump (x :: l) (r + 1) = x :: bump l r := by simp [bump]
theorem bump_zero (x : Int) (l : List Int) : bump (x :: l) 0 = (x + 1) :: l := by simp [bump]
theorem bump_at (l : List Int) (b : Int) (l' : List Int) : bump (l ++ b :: l') l.length = l ++ (b + 1) :: l' := by
  induction l with
  | nil => exact bump_zero b l'
  | cons x l ih => rw [List.cons_append, List.length_cons, bump_cons, ih]; rfl
theorem bump_left {l : List Int} {r : Nat} (h : r < l.length) (l' : List Int) : bump (l ++ l') r = bump l r ++ l' := by
  induction l generalizing r with
  | nil => cases h
  | cons x l ih =>
    cases r with
    | zero => rw [List.cons_append, bump_zero, bump_zero]; rfl
    | succ r => rw [List.cons_append, bump_cons, bump_cons, ih (by simpa using h)]; rfl
theorem bump_sum {l : List Int} {r : Nat} (h : r < l.length) : (bump l r).sum = l.sum + 1 := by
  induction l generalizing r with
  | nil => cases h
  | cons x l ih =>
    cases r with
    | zero => rw [bump_zero, List.sum_cons, List.sum_cons]; omega
    | succ r => rw [bump_cons, List.sum_cons, List.sum_cons, ih (by simpa using h)]; omega
def HasT (s : List Int) (t : Tr) : Prop := (∃ a, s = [a] ∧ t = (0, a, 0)) ∨ ∃ a mid b, s = a :: (mid ++ [b]) ∧ t = (a, mid.sum, b)
theorem HasT.step {s u : List Int} {t : Tr} {c : Int} (h : HasT s t) (hs : Step s c u) : HasT u (step3 c 1 t) := by
  obtain ⟨r, hs⟩ := hs
  obtain ⟨h1, h2, h3, rfl⟩ := nextL_iff.mp hs
  rcases h with ⟨a, rfl, rfl⟩ | ⟨a, mid, b, rfl, rfl⟩
  · have : r = 0 := by simpa using h1
    subst this
    have : c = 0 := by rw [← h3]; rfl
    subst this
    exact .inl ⟨a + 1, rfl, by simp [step3]⟩
  · right
    have hl : (a :: (mid ++ [b])).length = mid.length + 2 := by simp
    rw [hl] at h3 h1
    unfold chgR at h3
    rw [if_neg (by omega)] at h3
    cases r with
    | zero =>
      have : c = 1 := by rw [← h3, if_pos rfl, if_neg (by omega)]; rfl
      subst this
      exact ⟨a + 1, mid, b, bump_zero _ _, by simp [step3]⟩
    | succ r =>
      rw [bump_cons]
      by_cases e : r = mid.length
      · subst e
        have : c = -1 := by rw [← h3, if_neg (by omega), if_pos (by omega)]; rfl
        subst this
        exact ⟨a, mid, b + 1, by rw [bump_at], by simp [step3]⟩
      · have : c = 0 := by rw [← h3, if_neg (by omega), if_neg (by omega)]; rfl
        subst this
        have hr : r < mid.length := by omega
        exact ⟨a, bump mid r, b, by rw [bump_left hr], by simp [step3, bump_sum hr]⟩
theorem Desc.tail {a : Int} {s : List Int} (h : Desc (a :: s)) : Desc s := by
  cases s with
  | nil => trivial
  | cons b s => exact h.2
theorem Desc.max : ∀ {s : List Int} {a : Int}, Desc (a :: s) → ∀ x ∈ s, x ≤ a
  | b :: s, a, h, x, hx => by
    rcases List.mem_cons.mp hx with rfl | hx
    · exact h.1
    · exact Int.le_trans (Desc.max h.2 x hx) h.1
theorem Desc.min : ∀ {s : List Int} {b : Int}, Desc (s ++ [b]) → ∀ x ∈ s, b ≤ x
  | a :: s, b, h, x, hx => by
    rcases List.mem_cons.mp hx with rfl | hx
    · exact Desc.max h b (by simp)
    · exact Desc.min (Desc.tail h) x hx
theorem sum_max {a : Int} : ∀ {s : List Int}, (∀ x ∈ s, x ≤ a) → s.sum ≤ (s.length : Int) * a
  | [], _ => by simp
  | x :: s, h => by
    have h1 := h x List.mem_cons_self
    have h2 := sum_max (s := s) fun y hy => h y (List.mem_cons_of_mem _ hy)
    rw [List.sum_cons, List.length_cons]
    have : ((s.length + 1 : Nat) : Int) * a = (s.length : Int) * a + a := by
      rw [show ((s.length + 1 : Nat) : Int) = (s.length : Int) + 1 by omega, Int.add_mul]; omega
    omega
theorem sum_min {a : Int} : ∀ {s : List Int}, (∀ x ∈ s, a ≤ x) → (s.length : Int) * a ≤ s.sum
  | [], _ => by simp
  | x :: s, h => by
    have h1 := h x List.mem_cons_self
    have h2 := sum_min (s := s) fun y hy => h y (List.mem_cons_of_mem _ hy)
    rw [List.sum_cons, List.length_cons]
    have : ((s.length + 1 : Nat) : Int) * a = (s.length : Int) * a + a := by
      rw [show ((s.length + 1 : Nat) : Int) = (s.length : Int) + 1 by omega, Int.add_mul]; omega
    omega
theorem HasT.ok {s : List Int} {t : Tr} (h : HasT s t) (hs : Desc s) : OkT s.length t := by
  rcases h with ⟨a, rfl, rfl⟩ | ⟨a, mid, b, rfl, rfl⟩
  · exact ⟨rfl, rfl⟩
  · have hl : (((a :: (mid ++ [b])).length : Nat) : Int) = (mid.length : Int) + 2 := by simp; omega
    have h1 := sum_max (s := mid) (a := a) fun x hx => Desc.max hs x (by simp [hx])
    have h2 := sum_min (s := mid) (a := b) fun x hx => Desc.min (Desc.tail hs) x hx
    have h3 : b ≤ a := Desc.max hs b (by simp)
    rw [hl]
    unfold OkT
    rw [if_neg (by omega)]
    split
    · have : mid = [] := List.length_eq_zero_iff.mp (by omega)
      subst this
      exact ⟨rfl, h3⟩
    · simp only []
      rw [show (mid.length : Int) + 2 - 2 = mid.length by omega]
      exact ⟨h1, h2⟩
def evn (j : Nat) (z : Int) : List Int := List.replicate (z % j).toNat (z / j + 1) ++ List.replicate (j - (z % j).toNat) (z / j)
def evenS (k : Nat) (t : Tr) : List Int := if k = 1 then [t.2.1] else if k = 2 then [t.1, t.2.2] else t.1 :: (evn (k - 2) t.2.1 ++ [t.2.2])
end Oak
namespace Oak
open PySem PySem.Spec PyProof.Rows L2
open Tee (CmpD tyName zipD)
def Within (l : Int) (g : Option Int) (k : Int) : Prop := l ≤ k ∧ ∀ x, g = some x → k ≤ x
end Oak
namespace Oak
open PySem PySem.Spec PyProof.Rows L2
open Tee (CmpD tyName zipD)
def kLawFar0 : CSs := (.cons (.ret (.var 4)) .nil)
def kLawFar1 : CSs := (.cons (.sto 5 (.plus (.ix (.var 5) (.var 10)) (.var 9)) (.var 10)) .nil)
def kLawFar2 : CSs := (.cons (.set 10 (.op .sub (.int 1) (.var 7))) kLawFar1)
def kLawFar3 : CSs := (.cons (.app 4 (.frz (.tup (.cons (.var 7) (.cons (.var 9) .nil))))) kLawFar2)
def kLawFar4 : CSs := (.cons (.set 9 (.ix (.list (.cons (.plus (.int 1) (.call "_law_draw" (.cons (.var 0) (.cons (.var 8) .nil)))) (.cons (.var 8) (.cons (.plus (.int 1) (.call "_law_draw" (.cons (.var 0) (.cons (.b2 .min2 (.var 8) (.int 3)) .nil)))) .nil)))) (.call "_law_draw" (.cons (.var 0) (.cons (.int 3) .nil))))) kLawFar3)
def kLawFar5 : CSs := (.cons (.ife (.or (.cmp .Lt (.var 8) (.int 1)) (.and (.cmp .NotEq (.var 4) (.list .nil)) (.cmp .Eq (.ix (.ix (.var 4) (.neg (.int 1))) (.int 0)) (.var 7)))) (.cons .ct .nil) .nil) kLawFar4)
def kLawFar6 : CSs := (.cons (.set 8 (.b2 .min2 (.var 8) (.var 3))) kLawFar5)
def kLawFar7 : CSs := (.cons (.set 8 (.ix (.list (.cons (.var 3) (.cons (.op .sub (.times (.op .sub (.var 1) (.int 2)) (.ix (.var 5) (.int 0))) (.ix (.var 5) (.int 1))) (.cons (.op .sub (.op .fdiv (.ix (.var 5) (.int 1)) (.op .sub (.var 1) (.int 2))) (.ix (.var 5) (.int 2))) .nil)))) (.op .sub (.int 1) (.var 7)))) kLawFar6)
def lLawFar8 : CSs := (.cons (.set 7 (.ix (.list (.cons (.int 1) (.cons (.int 0) (.cons (.neg (.int 1)) .nil)))) (.call "_law_draw" (.cons (.var 0) (.cons (.int 3) .nil))))) kLawFar7)
def kLawFar9 : CSs := (.cons (.loop (.name 6) (.range (.call "_law_draw" (.cons (.var 0) (.cons (.plus (.var 2) (.int 1)) .nil)))) lLawFar8) kLawFar0)
def irLawFar : CSs := (.cons (.par 4 5 (.list .nil) (.list (.cons (.int 0) (.cons (.int 0) (.cons (.int 0) .nil))))) kLawFar9)
def kLawTotals0 : CSs := (.cons (.ret (.var 2)) .nil)
def lLawTotals1 : CSs := (.cons (.set 6 (.op .sub (.int 1) (.var 4))) (.cons (.sto 2 (.plus (.ix (.var 2) (.var 6)) (.b2 .max2 (.int 0) (.b2 .min2 (.var 5) (.var 3)))) (.var 6)) (.cons (.set 3 (.op .sub (.var 3) (.var 5))) .nil)))
def irLawTotals : CSs := (.cons (.par 2 3 (.list (.cons (.int 0) (.cons (.int 0) (.cons (.int 0) .nil)))) (.var 1)) (.cons (.loop (.pair 4 5) (.seq (.var 0)) lLawTotals1) kLawTotals0))
def kLawEnds0 : CSs := (.cons (.ret (.var 1)) .nil)
def lLawEnds1 : CSs := (.cons (.app 1 (.plus (.ix (.var 1) (.neg (.int 1))) (.var 3))) .nil)
def irLawEnds : CSs := (.cons (.set 1 (.list (.cons (.int 0) .nil))) (.cons (.loop (.pair 2 3) (.seq (.var 0)) lLawEnds1) kLawEnds0))
structure FarOk (k most : Int) (rs : List (Int × Int)) : Prop where
  runs : ∀ p ∈ rs, chg3 p.1 ∧ 1 ≤ p.2 ∧ p.2 ≤ most
  alt : Alt rs
  ok : ∀ u ∈ tots z3 rs, OkT k u
def csT2 (rs : List (Int × Int)) : List T := (rs.map t2).map .sh
def wFar : Wp := fun as Q _ => ∃ (p : Int × Int × Int) (k many most : Int), as = [.lst (spL p), .sh (.int k), .sh (.int many), .sh (.int most)] ∧ SpOk p ∧ (3 ≤ k ∧ k ≤ 10 ^ 39) ∧ (0 ≤ many ∧ many ≤ 400) ∧ (1 ≤ most ∧ most ≤ 10 ^ 30) ∧ ∀ (p' : Int × Int × Int) (rs : List (Int × Int)), SpOk p' → rs.length ≤ many → FarOk k most rs → Q (.sh (.list (rs.map t2))) [.lst (spL p'), .sh (.int k), .sh (.int many), .sh (.int most)]
def encD (t : Tr) : PyData := .list [.int t.1, .int t.2.1, .int t.2.2]
def encT (t : Tr) : T := .lst [.sh (.int t.1), .sh (.int t.2.1), .sh (.int t.2.2)]
def firstT : Tr → Int → List (Int × Int) → Tr
  | t, _, [] => t
  | t, n, (c, m) :: rs => firstT (step3 c (max 0 (min m n)) t) (n - m) rs
def wTotals : Wp := fun as Q _ => ∃ (d : PyData) (rs : List (Int × Int)) (n : Int), as = [.sh d, .sh (.int n)] ∧ EncR d rs ∧ RunsOk rs ∧ Q (.sh (encD (firstT z3 n rs))) as
def endsL : Int → List (Int × Int) → List Int
  | _, [] => []
  | a, (_, n) :: rs => (a + n) :: endsL (a + n) rs
def wEnds : Wp := fun as Q _ => ∃ (d : PyData) (rs : List (Int × Int)), as = [.sh d] ∧ EncR d rs ∧ RunsOk rs ∧ Q (.sh (.list ((0 :: endsL 0 rs).map PyData.int))) as
end Oak
namespace Oak
open PySem PySem.Spec PyProof.Rows L2
open Tee (CmpD tyName zipD)
def irRequirePossible : CSs := (.cons (.set 2 (.call "first_obstruction" (.cons (.var 0) (.cons (.var 1) .nil)))) (.cons (.ife (.cmp .IsNot (.var 2) .non) (.cons .never .nil) .nil) .nil))
def irEvenEntries : CSs := (.cons (.ife (.cmp .Eq (.var 1) (.int 0)) (.cons (.ret (.list .nil)) .nil) .nil) (.cons (.unp 2 3 (.bin bDivmod (.var 0) (.var 1))) (.cons (.ret (.plus (.times (.list (.cons (.plus (.var 2) (.int 1)) .nil)) (.var 3)) (.times (.list (.cons (.var 2) .nil)) (.op .sub (.var 1) (.var 3))))) .nil)))
def kEvenState0 : CSs := (.cons (.ret (.tri tListStar (.var 2) (.call "even_entries" (.cons (.var 3) (.cons (.op .sub (.var 1) (.int 2)) .nil))) (.var 4))) .nil)
def kEvenState1 : CSs := (.cons (.ife (.cmp .Eq (.var 1) (.int 1)) (.cons (.ret (.list (.cons (.var 3) .nil))) .nil) .nil) kEvenState0)
def kEvenState2 : CSs := (.cons (.unp3 2 3 4 (.ix (.call "totals_by_run" (.cons (.var 0) .nil)) (.neg (.int 1)))) kEvenState1)
def kEvenState3 : CSs := (.cons (.expr (.call "require_possible" (.cons (.var 0) (.cons (.var 1) .nil)))) kEvenState2)
def irEvenState : CSs := (.cons (.expr (.call "require_record_and_readers" (.cons (.var 0) (.cons (.var 1) (.cons (.glob "MOST_READERS") .nil))))) kEvenState3)
theorem iib_of {k lo hi : Int} (h1 : lo ≤ k) (h2 : k ≤ hi) : iibB (.int k) lo hi = true := by
  unfold iibB
  exact decide_eq_true ⟨h1, h2⟩
def wRpos : Wp := fun as Q _ => ∃ (d : PyData) (rs : List (Int × Int)) (k : Int), as = [.sh d, .sh (.int k)] ∧ EncR d rs ∧ RunsOk rs ∧ (1 ≤ k ∧ k ≤ 10 ^ 39) ∧ obsGo k z3 rs = none ∧ Q (.sh .none) as
def evE (j : Nat) (z : Int) : List Int := if j = 0 then [] else evn j z
def wEvE : Wp := fun as Q _ => ∃ (z : Int) (j : Nat), as = [.sh (.int z), .sh (.int (j : Int))] ∧ (0 ≤ z ∧ z ≤ 10 ^ 34) ∧ j ≤ 400 ∧ Q (.lst (((evE j z).map PyData.int).map .sh)) as
def wEvS : Wp := fun as Q _ => ∃ (d : PyData) (rs : List (Int × Int)) (k : Nat), as = [.sh d, .sh (.int (k : Int))] ∧ recB d = true ∧ EncR d rs ∧ RunsOk rs ∧ 1 ≤ k ∧ k ≤ 200 ∧ obsGo (k : Int) z3 rs = none ∧ Q (.lst (((evenS k (fin3 z3 rs)).map PyData.int).map .sh)) as
end Oak
namespace Oak
open PySem PySem.Spec PyProof.Rows L2
open Tee (CmpD tyName zipD)
def irLawIsEven : CSs := (.cons (.ret (.or (.cmp .Lt (.un uLen (.var 0)) (.int 4)) (.cmp .Lt (.op .sub (.b1 .max (.sl (.var 0) (.int 1) (.neg (.int 1)))) (.b1 .min (.sl (.var 0) (.int 1) (.neg (.int 1))))) (.int 2)))) .nil)
def kLawSmallRight0 : CSs := (.cons (.ret (.bl true)) .nil)
def kLawSmallRight1 : CSs := (.cons (.app 9 .non) .nil)
def kLawSmallRight2 : CSs := (.cons (.ife (.or (.not (.lend (.call "_law_same" (.cons (.frz (.list (.cons (.var 9) .nil))) (.cons (.var 5) .nil))))) (.cmp .NotEq (.un uRepr (.var 6)) (.var 7))) (.cons (.ret (.bl false)) .nil) .nil) kLawSmallRight1)
def lLawSmallRight3 : CSs := (.cons (.set 9 (.call "even_state" (.cons (.var 6) (.cons (.var 1) .nil)))) kLawSmallRight2)
def kLawSmallRight4 : CSs := (.cons (.loop (.name 8) (.range (.int 2)) lLawSmallRight3) kLawSmallRight0)
def kLawSmallRight5 : CSs := (.cons (.set 7 (.un uRepr (.var 6))) kLawSmallRight4)
def kLawSmallRight6 : CSs := (.cons (.set 6 (.call "_law_dressed" (.cons (.var 0) (.cons (.call "_law_record" (.cons (.var 2) .nil)) .nil)))) kLawSmallRight5)
def eLawSmallRight7 : CE := (.var 4)
def tLawSmallRight8 : CE := (.call "_law_is_even" (.cons (.var 4) .nil))
def kLawSmallRight9 : CSs := (.cons (.setLcIf 5 eLawSmallRight7 (.name 4) (.list (.ix (.var 3) (.neg (.int 1)))) tLawSmallRight8 [("state", 4)]) kLawSmallRight6)
def kLawSmallRight10 : CSs := (.cons (.ife (.cmp .Is (.var 3) .non) (.cons (.ret (.bl true)) .nil) .nil) kLawSmallRight9)
def irLawSmallRight : CSs := (.cons (.set 3 (.call "_law_layers" (.cons (.var 1) (.cons (.var 2) .nil)))) kLawSmallRight10)
def kLawFarRight0 : CSs := (.cons (.ret (.and (.call "_law_is_even" (.cons (.var 2) .nil)) (.cmp .Eq (.var 2) (.un uRev (.un uSorted (.var 2)))))) .nil)
def kLawFarRight1 : CSs := (.cons (.ife (.or (.cmp .NotEq (.ix (.var 2) (.int 0)) (.var 3)) (.or (.cmp .NotEq (.ix (.var 2) (.neg (.int 1))) (.var 5)) (.or (.cmp .NotEq (.b1 .sum (.sl (.var 2) (.int 1) (.neg (.int 1)))) (.var 4)) (.cmp .NotEq (.un uLen (.var 2)) (.var 1))))) (.cons (.ret (.bl false)) .nil) .nil) kLawFarRight0)
def kLawFarRight2 : CSs := (.cons (.unp3 3 4 5 (.call "_law_totals" (.cons (.var 0) (.cons (.ix (.call "_law_ends" (.cons (.var 0) .nil)) (.neg (.int 1))) .nil)))) kLawFarRight1)
def irLawFarRight : CSs := (.cons (.set 2 (.frz (.call "even_state" (.cons (.var 0) (.cons (.var 1) .nil))))) kLawFarRight2)
def midS (s : List Int) : List Int := s.tail.dropLast
def EvenP (s : List Int) : Prop := s.length < 4 ∨ ∀ x ∈ midS s, ∀ y ∈ midS s, x - y < 2
instance (s : List Int) : Decidable (EvenP s) := by unfold EvenP; infer_instance
def wIsEven : Wp := fun as Q _ => ∃ s : List Int, as = [.sh (iL s)] ∧ s.length ≤ 400 ∧ Q (.sh (.bool (decide (EvenP s)))) as
theorem Desc.pw : ∀ {s : List Int}, Desc s → s.Pairwise fun x y => y ≤ x
  | [], _ => .nil
  | a :: s, h => .cons (fun x hx => Desc.max h x hx) (Desc.pw (Desc.tail h))
def finC (t : Tr) (cs : List Int) : Tr := cs.foldl (fun t c => step3 c 1 t) t
end Oak
namespace Oak
open PySem PySem.Spec PyProof.Rows L2
open Tee (CmpD tyName zipD)
end Oak
namespace Oak
open PySem PySem.Spec PyProof.Rows L2
open Tee (CmpD tyName zipD)
def sumN (rs : List (Int × Int)) : Int := (rs.map (·.2)).sum
theorem enc_t2s : ∀ rs : List (Int × Int), EncR (.list (rs.map t2)) rs := fun rs => ⟨rs.map t2, rfl, by
  induction rs with
  | nil => exact .nil
  | cons p rs ih => exact .cons (by cases p; rfl) ih⟩
theorem dok_t2s {rs : List (Int × Int)} (hr : rs.length ≤ 400) : dOk 3 (.list (rs.map t2)) = true := by
  have h1 : ∀ d ∈ rs.map t2, dOk 2 d = true := fun d hd => by
    obtain ⟨p, _, rfl⟩ := List.mem_map.mp hd
    rfl
  have h2 : (rs.map t2).length ≤ 1000000 := by rw [List.length_map]; exact Nat.le_trans hr (by decide)
  show (decide ((rs.map t2).length ≤ 1000000) && (rs.map t2).all (dOk 2)) = true
  rw [decide_eq_true h2, List.all_eq_true.mpr h1]; rfl
structure DrOk (rs : List (Int × Int)) (r : PyData) : Prop where
  enc : EncR r rs
  rec' : recB r = true
  seq : (∃ xs, r = PyData.list xs) ∨ ∃ xs, r = PyData.tuple xs
  show1 : r.showable = true
  dep : r.depth ≤ 60
  len : r.shown.length ≤ sizeLine
end Oak
namespace Oak
open PySem PySem.Spec PyProof.Rows L2
open Tee (CmpD tyName zipD)
def wSmR : Wp := fun as Q _ => ∃ (p : Int × Int × Int) (k : Nat) (cs : List Int), as = [.lst (spL p), .sh (.int (k : Int)), .sh (.list (cs.map .int))] ∧ SpOk p ∧ 1 ≤ k ∧ k ≤ 200 ∧ cs.length ≤ 9 ∧ (∀ c ∈ cs, chg3 c) ∧ ∀ p' : Int × Int × Int, SpOk p' → Q (.sh (.bool true)) [.lst (spL p'), .sh (.int (k : Int)), .sh (.list (cs.map .int))]
def wFarR : Wp := fun as Q _ => ∃ (rs : List (Int × Int)) (k : Nat), as = [.sh (.list (rs.map t2)), .sh (.int (k : Int))] ∧ rs.length ≤ 400 ∧ FarOk k (10 ^ 30) rs ∧ 3 ≤ k ∧ k ≤ 200 ∧ Q (.sh (.bool true)) as
end Oak
namespace Oak
open PySem PySem.Spec PyProof.Rows L2 OakZ
open Tee (Dd DdAll ScrL SysAt CmpD Wd Od KD Stp upTo zipD tyName pe_U)
section
variable {S : Sta} {ρ : Rho} {R : Out → Prop} {Q : T → Rho → Prop} {a b c e tg : Expr} {x y z : Str} {p px py pz pos : Pos}
theorem cr_sumS {X : Cx} (hc : X.calm = true) : CallR X (.builtin "sum") (fun vs H Q => ∃ (a : Addr) (ns : List Int), vs = [V.ref a] ∧ (SqL X.K H a (ns.map V.int) ∨ SqT X.K H a (ns.map V.int)) ∧ Q (.int ns.sum) H) := by
  intro pins s σ H vs us Q I r ⟨a, ns, e, h, q⟩
  rcases h with h | h
  · exact cr_sum hc pins s σ H vs us Q I r ⟨a, ns, e, h, q⟩
  · exact cr_sumT hc pins s σ H vs us Q I r ⟨a, ns, e, h, q⟩
theorem wv_sumS (h : WO S a ρ fun o ρ1 => ∃ ns : List Int, (o.view ρ1 = some (.list (ns.map .int)) ∨ o.view ρ1 = some (.tuple (ns.map .int))) ∧ Q (.sh (.int ns.sum)) ρ1) (hm : S.mg "sum" = none) (hg : S.sc.names.lookup ("sum" : Str) = some .globalImplicit) (ha : NoSt a) : WV S (.Call (.Name "sum" p) [a] [] pos) ρ Q := by
  intro X B st σ τ G H E QV kq
  have f := st.fit
  refine Tee.WE.by (pe_callB (cr_sumS f.calm) (glob_of f hg) (by rw [f.mg]; exact hm) (by decide +kernel) (pa_cons pe_U pa_nil (ha _ _)) (by decide) (by decide) (ha _ _) rfl) ?_
  refine h X B st σ τ G H E _ fun o ρ1 v G1 H1 q E1 ok => ?_
  obtain ⟨ns, e1, q⟩ := q
  rcases e1 with e1 | e1
  · have dd := Opd.dd E1 ok e1
    cases dd with
    | lst h1 r =>
      have e := Tee.DdAll.intsV ns r
      subst e
      exact ⟨_, ns, rfl, .inl (SqL.of h1), kq _ _ _ _ _ q ((Opd.drop E1).addSh (.int _))⟩
  · have dd := Opd.dd E1 ok e1
    cases dd with
    | tup h1 r =>
      have e := Tee.DdAll.intsV ns r
      subst e
      exact ⟨_, ns, rfl, .inr (SqT.of h1), kq _ _ _ _ _ q ((Opd.drop E1).addSh (.int _))⟩
end
def uSumS : Un where
  ck := ckCall "sum"
  wp := fun o ρ Q => ∃ ns : List Int, (o.view ρ = some (.list (ns.map .int)) ∨ o.view ρ = some (.tuple (ns.map .int))) ∧ Q (.sh (.int ns.sum)) ρ
  pl := true
  plOk := fun _ => ckCall_plain
  snd := fun l g h q => by
    obtain ⟨p, pos, rfl, h1, h2⟩ := of_ckCall h
    exact wv_sumS q (g _ (by simp)) (isG_of l h1).1 (star_of h2)
theorem uSumS_wp o ρ Q : uSumS.wp o ρ Q = (∃ ns : List Int, (o.view ρ = some (.list (ns.map .int)) ∨ o.view ρ = some (.tuple (ns.map .int))) ∧ Q (.sh (.int ns.sum)) ρ) := rfl
theorem uSumS_pl : uSumS.pl = true := rfl
end Oak
namespace Oak
open PySem PySem.Spec PyProof.Rows L2
open Tee (CmpD tyName zipD)
def room (P : Int) (m : List Int) : Int := (m.map fun x => if P < x then P else x).sum
def Rooms (cs : List Int) (m : List Int) : Prop := ∀ n, n ≤ cs.length → (finC z3 (cs.take n)).2.1 ≤ room (finC z3 (cs.take n)).1 m
end Oak
namespace Oak
open PySem PySem.Spec PyProof.Rows L2
open Tee (CmpD tyName zipD)
def eIsState0 : CE := (.cmp .GtE (.var 1) (.var 2))
def irIsState : CSs := (.cons (.ife (.not (.call "are_integers_between" (.cons (.var 0) (.cons (.glob "MOST_READERS") (.cons (.int 0) (.cons (.glob "MOST_POSITION") .nil)))))) (.cons (.ret (.bl false)) .nil) .nil) (.cons (.ret (.and (.cmp .GtE (.un uLen (.var 0)) (.int 1)) (.b1 .all (.lc eIsState0 (.pair 1 2) (.its iZipS (.cons (.var 0) (.cons (.bin bFrom (.var 0) (.int 1)) .nil))) [("entry", 1), ("later", 2)])))) .nil))
def irHasEnds : CSs := (.cons (.unp3 2 3 4 (.var 1)) (.cons (.ife (.cmp .Eq (.un uLen (.var 0)) (.int 1)) (.cons (.ret (.cmp .Eq (.ix (.var 0) (.int 0)) (.var 3))) .nil) .nil) (.cons (.ret (.and (.cmp .Eq (.ix (.var 0) (.int 0)) (.var 2)) (.and (.cmp .Eq (.ix (.var 0) (.neg (.int 1))) (.var 4)) (.cmp .Eq (.un uSumS (.sl (.var 0) (.int 1) (.neg (.int 1)))) (.var 3))))) .nil)))
def kSumsOfSmaller0 : CSs := (.cons (.ret (.var 2)) .nil)
def kSumsOfSmaller1 : CSs := (.cons (.app 2 (.plus (.times (.var 3) (.var 5)) (.var 4))) .nil)
def lSumsOfSmaller2 : CSs := (.cons (.aug 3 false (.int 1)) (.cons (.aug 4 true (.ix (.var 0) (.var 3))) .nil))
def lSumsOfSmaller3 : CSs := (.cons (.whl (.and (.cmp .Gt (.var 3) (.int 0)) (.cmp .LtE (.ix (.var 0) (.op .sub (.var 3) (.int 1))) (.var 5))) lSumsOfSmaller2) kSumsOfSmaller1)
def irSumsOfSmaller : CSs := (.cons (.set 2 (.list .nil)) (.cons (.set 3 (.un uLen (.var 0))) (.cons (.set 4 (.int 0)) (.cons (.loop (.name 5) (.seq (.var 1)) lSumsOfSmaller3) kSumsOfSmaller0))))
def kFirstWrongPrefix0 : CSs := (.cons (.ret .non) .nil)
def lFirstWrongPrefix1 : CSs := (.cons (.set 10 (.op .sub (.var 9) (.ix (.var 8) (.int 1)))) (.cons (.ife (.and (.cmp .Eq (.ix (.var 7) (.int 0)) (.int 0)) (.cmp .Gt (.ix (.var 7) (.int 1)) (.var 10))) (.cons (.ret (.plus (.plus (.un uSumT (.var 8)) (.var 10)) (.int 1))) .nil) .nil) .nil))
def kFirstWrongPrefix2 : CSs := (.cons (.loop (.triple 7 8 9) (.its iZip3 (.cons (.var 0) (.cons (.var 2) (.cons (.var 6) .nil)))) lFirstWrongPrefix1) kFirstWrongPrefix0)
def eFirstWrongPrefix3 : CE := (.var 3)
def irFirstWrongPrefix : CSs := (.cons (.set 2 (.call "totals_by_run" (.cons (.var 0) .nil))) (.cons (.set 6 (.call "sums_of_smaller" (.cons (.var 1) (.cons (.frz (.lc eFirstWrongPrefix3 (.triple 3 4 5) (.list (.var 2)) [("plus", 3), ("zero", 4), ("minus", 5)])) .nil)))) kFirstWrongPrefix2))
def kMisfit0 : CSs := (.cons (.ret (.ife (.cmp .Is (.var 3) .non) .non (.frz (.tup (.cons (.str "prefix") (.cons (.var 3) .nil)))))) .nil)
def kMisfit1 : CSs := (.cons (.set 3 (.call "first_wrong_prefix" (.cons (.var 0) (.cons (.frz (.sl (.var 2) (.int 1) (.neg (.int 1)))) .nil)))) kMisfit0)
def kMisfit2 : CSs := (.cons (.ife (.cmp .Eq (.var 1) (.int 1)) (.cons (.ret .non) .nil) .nil) kMisfit1)
def kMisfit3 : CSs := (.cons (.ife (.not (.call "has_ends" (.cons (.var 2) (.cons (.ix (.call "totals_by_run" (.cons (.var 0) .nil)) (.neg (.int 1))) .nil)))) (.cons (.ret (.frz (.tup (.cons (.str "ends") .nil)))) .nil) .nil) kMisfit2)
def kMisfit4 : CSs := (.cons (.expr (.call "require_possible" (.cons (.var 0) (.cons (.var 1) .nil)))) kMisfit3)
def kMisfit5 : CSs := (.cons (.ife (.or (.not (.call "is_state" (.cons (.var 2) .nil))) (.cmp .NotEq (.un uLen (.var 2)) (.var 1))) (.cons (.st0 (sRaise "InvalidState")) .nil) .nil) kMisfit4)
def irMisfit : CSs := (.cons (.expr (.call "require_record_and_readers" (.cons (.var 0) (.cons (.var 1) (.cons (.glob "MOST_READERS") .nil))))) kMisfit5)
def irFits : CSs := (.cons (.ret (.cmp .Is (.call "misfit" (.cons (.var 0) (.cons (.var 1) (.cons (.var 2) .nil)))) .non)) .nil)
def preAt (m : List Int) : Tr → List Int → Option Int
  | _, [] => none
  | t, c :: cs => if room (step3 c 1 t).1 m < (step3 c 1 t).2.1 then some (sum3 t + 1) else preAt m (step3 c 1 t) cs
def preGo (m : List Int) : Tr → List (Int × Int) → Option Int
  | _, [] => none
  | t, (c, n) :: rs => if c = 0 ∧ room t.1 m - t.2.1 < n then some (sum3 t + (room t.1 m - t.2.1) + 1) else preGo m (step3 c n t) rs
def geD : PyData → PyData → Bool
  | .int a, .int b => decide (b ≤ a)
  | _, _ => false
def descD : List PyData → Bool
  | a :: b :: l => geD a b && descD (b :: l)
  | _ => true
def stB (d : PyData) : Bool := match seqB d with
  | some ds => aibB d 200 0 (10 ^ 33) && (decide (1 ≤ ds.length) && descD ds)
  | none => false
theorem descD_ints : ∀ ns : List Int, descD (ns.map .int) = decide (ns.Pairwise fun x y => y ≤ x)
  | [] => by simp [descD]
  | [a] => by simp [descD]
  | a :: b :: l => by
    have ih := descD_ints (b :: l)
    have e : descD ((a :: b :: l).map .int) = (decide (b ≤ a) && descD ((b :: l).map .int)) := rfl
    rw [e, ih, ← Bool.decide_and]
    refine decide_eq_decide.mpr ⟨fun ⟨h1, h2⟩ => .cons (fun x hx => ?_) h2, fun h => ?_⟩
    · rcases List.mem_cons.mp hx with rfl | hx
      · exact h1
      · cases h2 with
        | cons h3 _ => have := h3 x hx; omega
    · cases h with
      | cons h3 h4 => exact ⟨h3 b (by simp), h4⟩
def wIst : Wp := fun as Q _ => ∃ d, as = [.sh d] ∧ Q (.sh (.bool (stB d))) as
def endsB (s : List Int) (t : Tr) : Bool := if s.length = 1 then decide (s.getD 0 0 = t.2.1) else decide (s.getD 0 0 = t.1) && (decide (s.getLastD 0 = t.2.2) && decide ((midS s).sum = t.2.1))
def wHend : Wp := fun as Q _ => ∃ (d : PyData) (s : List Int) (t : Tr), as = [.sh d, .sh (p3 t)] ∧ seqB d = some (s.map .int) ∧ 1 ≤ s.length ∧ Q (.sh (.bool (endsB s t))) as
def wSos : Wp := fun as Q _ => ∃ (d : PyData) (m ls : List Int), as = [.sh d, .sh (.list (ls.map .int))] ∧ seqB d = some (m.map .int) ∧ m.length ≤ 400 ∧ m.Pairwise (fun x y => y ≤ x) ∧ ls.length ≤ 1000 ∧ ls.Pairwise (fun x y => x ≤ y) ∧ (∀ x ∈ ls, 0 ≤ x ∧ x ≤ 10 ^ 40) ∧ Q (.sh (.list ((ls.map fun P => room P m).map .int))) as
def wFwp : Wp := fun as Q _ => ∃ (d d' : PyData) (rs : List (Int × Int)) (m : List Int), as = [.sh d, .sh d'] ∧ EncR d rs ∧ RunsOk rs ∧ seqB d' = some (m.map .int) ∧ m.length ≤ 400 ∧ m.Pairwise (fun x y => y ≤ x) ∧ Q (.sh (optI (preGo m z3 rs))) as
def preD : Option Int → PyData
  | none => .none
  | some n => .tuple [.str "prefix", .int n]
def misGo (k : Int) (s : List Int) (rs : List (Int × Int)) : PyData := if endsB s (fin3 z3 rs) then (if k = 1 then .none else preD (preGo (midS s) z3 rs)) else .tuple [.str "ends"]
structure StOk (k : Int) (d : PyData) (s : List Int) : Prop where
  enc : seqB d = some (s.map .int)
  len : (s.length : Int) = k
  pw : s.Pairwise fun x y => y ≤ x
  bnd : ∀ x ∈ s, 0 ≤ x ∧ x ≤ 10 ^ 33
theorem StOk.stB {k : Int} {d : PyData} {s : List Int} (h : StOk k d s) (h1 : 1 ≤ k) (h2 : k ≤ 200) : stB d = true := by
  have hl := h.len
  unfold Oak.stB aibB
  rw [h.enc]
  simp only
  rw [descD_ints, decide_eq_true h.pw, List.length_map, decide_eq_true (show ((s.length : Nat) : Int) ≤ 200 by omega), decide_eq_true (show 1 ≤ s.length by omega)]
  have : ((s.map PyData.int).all fun x => iibB x 0 (10 ^ 33)) = true := by
    rw [List.all_eq_true]
    intro x hx
    obtain ⟨i, hi, rfl⟩ := List.mem_map.mp hx
    exact iib_of (h.bnd i hi).1 (h.bnd i hi).2
  rw [this]; rfl
def wMis : Wp := fun as Q _ => ∃ (d d' : PyData) (k : Int) (rs : List (Int × Int)) (s : List Int), as = [.sh d, .sh (.int k), .sh d'] ∧ recB d = true ∧ EncR d rs ∧ RunsOk rs ∧ (1 ≤ k ∧ k ≤ 200) ∧ StOk k d' s ∧ obsGo k z3 rs = none ∧ Q (.sh (misGo k s rs)) as
def wFits : Wp := fun as Q _ => ∃ (d d' : PyData) (k : Int) (rs : List (Int × Int)) (s : List Int), as = [.sh d, .sh (.int k), .sh d'] ∧ recB d = true ∧ EncR d rs ∧ RunsOk rs ∧ (1 ≤ k ∧ k ≤ 200) ∧ StOk k d' s ∧ obsGo k z3 rs = none ∧ Q (.sh (.bool (Tee.isNone (misGo k s rs)))) as
end Oak
namespace Oak
open PySem PySem.Spec PyProof.Rows L2
open Tee (CmpD tyName zipD)
theorem cmpX_eqNil {ds : List PyData} (Q : Bool → Prop) (h : plD (.list ds) = true) (hd : (PyData.list ds).depth ≤ 64) : CmpX .Eq (.list ds) (.list []) Q = Q ds.isEmpty := by
  rw [cmpX_eqP Q h rfl hd (by decide)]
  congr 1
  cases ds <;> simp
end Oak
namespace Oak
open PySem PySem.Spec PyProof.Rows L2
open Tee (CmpD tyName zipD)
def eLawReel0R : CE := (.op .mod (.var 2) (.int 1000003))
def kLawReel1R : CSs := (.cons (.ret (.list (.cons (.var 3) (.cons (.frz (.plus (.lc eLawReel0R (.name 2) (.list (.bin bTo (.var 0) (.int 63))) [("cell", 2)]) (.list (.cons (.int 57) .nil)))) (.cons (.int 0) (.cons (.var 1) .nil)))))) .nil)
def eLawReel2R : CE := (.op .sub (.var 2) (.op .pow (.int 10) (.int 18)))
def tLawReel3R : CE := (.cmp .GtE (.var 2) (.op .pow (.int 10) (.int 18)))
def kLawReel4R : CSs := (.cons (.setLcIf 3 eLawReel2R (.name 2) (.list (.bin bTo (.var 0) (.int 63))) tLawReel3R [("cell", 2)]) kLawReel1R)
def lLawReel5R : CSs := (.cons (.set 1 (.op .mod (.plus (.plus (.times (.var 1) (.var 1)) (.op .mod (.var 2) (.int 1000000000000000003))) (.int 29)) (.op .sub (.times (.op .pow (.int 2) (.int 64)) (.op .pow (.int 2) (.int 63))) (.int 1)))) .nil)
def kLawReel6R : CSs := (.cons (.loop (.name 2) (.list (.bin bTo (.var 0) (.int 63))) lLawReel5R) kLawReel4R)
def irLawReelR : CSs := (.cons (.set 1 (.op .pow (.int 23) (.int 29))) kLawReel6R)
def kLawDraw0R : CSs := (.cons (.ret (.op .mod (.op .fdiv (.ix (.var 0) (.int 3)) (.op .pow (.int 2) (.int 41))) (.var 1))) .nil)
def kLawDraw1R : CSs := (.cons (.sto 0 (.op .mod (.var 4) (.op .sub (.times (.op .pow (.int 2) (.int 64)) (.op .pow (.int 2) (.int 63))) (.int 1))) (.int 3)) kLawDraw0R)
def kLawDraw2R : CSs := (.cons (.set 4 (.plus (.plus (.times (.ix (.var 0) (.int 3)) (.ix (.var 0) (.int 3))) (.times (.plus (.var 3) (.int 17)) (.int 27644437))) (.times (.ix (.var 0) (.int 2)) (.int 999959)))) kLawDraw1R)
def kLawDraw3R : CSs := (.cons (.set 3 (.ix (.ix (.var 0) (.int 1)) (.op .mod (.ix (.var 0) (.int 2)) (.un uLen (.ix (.var 0) (.int 1)))))) kLawDraw2R)
def kLawDraw4R : CSs := (.cons (.sto 0 (.plus (.ix (.var 0) (.int 2)) (.int 1)) (.int 2)) kLawDraw3R)
def kLawDraw5R : CSs := (.cons (.ret (.op .mod (.var 2) (.var 1))) .nil)
def kLawDraw6R : CSs := (.cons (.sto 0 (.frz (.plus (.times (.list (.cons (.op .fdiv (.var 2) (.var 1)) .nil)) (.toInt (.cmp .GtE (.var 2) (.var 1)))) (.bin bFrom (.ix (.var 0) (.int 0)) (.int 1)))) (.int 0)) kLawDraw5R)
def irLawDrawR : CSs := (.cons (.ife (.cmp .NotEq (.ix (.var 0) (.int 0)) (.list .nil)) (.cons (.set 2 (.ix (.ix (.var 0) (.int 0)) (.int 0))) kLawDraw6R) .nil) kLawDraw4R)
abbrev Rl := List Int × List Int × Int × Int
def RlOk (p : Rl) : Prop := (p.1.length ≤ 63 ∧ ∀ x ∈ p.1, 0 ≤ x) ∧ (1 ≤ p.2.1.length ∧ p.2.1.length ≤ 64 ∧ ∀ x ∈ p.2.1, 0 ≤ x ∧ x < 1000003) ∧ (0 ≤ p.2.2.1) ∧ 0 ≤ p.2.2.2 ∧ p.2.2.2 < 2 ^ 140
def rlL (p : Rl) : List T := [.sh (iL p.1), .sh (iL p.2.1), .sh (.int p.2.2.1), .sh (.int p.2.2.2)]
theorem rlL_inj {p q : Rl} (h : rlL p = rlL q) : p = q := by
  obtain ⟨a, b, c, d⟩ := p
  obtain ⟨a', b', c', d'⟩ := q
  simpa [rlL, iL_inj] using h
theorem atI_c3 {α : Type} (x y z w : α) (xs : List α) : atI (x :: y :: z :: w :: xs) 3 = some w := by rw [atI_pos (by decide)]; rfl
theorem cmpX_neNilI (s : List Int) (Q : Bool → Prop) : CmpX .NotEq (.list (s.map .int)) (.list []) Q = Q (!s.isEmpty) := by
  have h1 := pl_iL s
  have h2 := Nat.le_trans (depth_iL s) (show 1 ≤ 64 by decide)
  rw [cmpX_neNil Q h1 h2]
  cases s <;> rfl
def wReel : Wp := fun as Q _ => ∃ ns : List Int, as = [.scr ns] ∧ ∀ p, RlOk p → Q (.lst (rlL p)) as
theorem stir_mod (x : Int) : 0 ≤ x % (2 ^ 64 * 2 ^ 63 - 1) ∧ x % (2 ^ 64 * 2 ^ 63 - 1) < 2 ^ 140 := ⟨Int.emod_nonneg _ (by decide), Int.lt_of_lt_of_le (Int.emod_lt_of_pos _ (by decide)) (by decide)⟩
theorem stir_mul {s : Int} (h0 : 0 ≤ s) (h1 : s < 2 ^ 140) : CMulO s s := by
  left
  have : s.natAbs < 2 ^ 140 := by omega
  exact wide_mul (a := 140) (b := 140) this this (by decide) (by decide) (by decide)
theorem vcReel (Γ : Gam) (as : List T) (Q : T → List T → Prop) (E : Value → XF → List T → Prop) (h : wReel as Q E) : wpS Γ irLawReelR (qd0 ["script", "stir", "cell", "great"] as) (endW as Q) := by
  obtain ⟨ns, rfl, q⟩ := h
  have hsz := sizeLine_eq
  have ec : Tee.cutD (ns.map PyData.int) none (some 63) = (ns.take 63).map PyData.int := by
    rw [cut_to (by decide), List.map_take]; rfl
  have hl : (ns.take 63).length ≤ 63 := by rw [List.length_take]; omega
  have hcp : CPow 23 29 := ⟨by decide, by decide, by decide⟩
  have hcp2 : CPow 2 64 := ⟨by decide, by decide, by decide⟩
  have hcp3 : CPow 2 63 := ⟨by decide, by decide, by decide⟩
  have hcp4 : CPow 10 18 := ⟨by decide, by decide, by decide⟩
  have hm3 : CMulO (2 ^ 64) (2 ^ 63) := .inr (.inr ⟨by decide, by decide⟩)
  simp (config := {maxSteps := 2000000}) only [↓wpS, ↓wp1, ↓wpV, ↓wpO, ↓wpT, ↓wpL, ↓wpA, ↓wpI, ↓wpTg_name, ↓andThen, ↓rdVar, ↓argVar, ↓mvVar, ↓callW, qg0, qb0, Option.map_some, Option.map_none, view_tmp, view_var, tree_tmp, tree_var, lst_tmp, lst_var, tup_tmp, tup_var, toD_sh, toD_shs, toD_shsT, toD_lnil, shs_nil', lstOf_shL, lstOf_lst, tupOf_shT, tupOf_tup, lstOf_int, tupOf_int, lstOf_tupD, tupOf_lstD, lstOf_tup, tupOf_lst, lstOf_str, tupOf_str, shs_map, shs_cons, List.set_cons_succ, List.set_cons_zero, List.getElem?_cons_zero, List.getElem?_cons_succ, Option.join_some, Option.bind_some, Option.bind_none, Option.some.injEq, Prod.mk.injEq, T.sh.injEq, T.lst.injEq, T.tup.injEq, T.dct.injEq, PyData.int.injEq, PyData.str.injEq, PyData.bool.injEq, PyData.list.injEq, PyData.tuple.injEq, List.cons.injEq, exists_eq_left', exists_eq_left, exists_and_left, exists_and_right, exists_eq', exists_eq, exists_const, and_assoc, true_and, and_true, false_and, and_false, or_false, false_or, exists_false, true_implies, false_implies, implies_true, forall_eq', forall_eq, decide_eq_true_eq, decide_eq_false_iff_not, Bool.not_eq_true', Bool.not_eq_false', Bool.not_eq_true, Bool.not_eq_false, decide_true, decide_false, Bool.not_true, Bool.not_false, Bool.false_eq_true, Bool.true_eq_false, reduceCtorEq, CmpO, cmpX_eqI, cmpX_neI, cmpX_lt, cmpX_le, cmpX_gt, cmpX_ge, cmpX_eqS, cmpX_neS, cmpX_isN, cmpX_notN, cmpX_isB, PlusO, IntO, TimesO, turn_nx, turn_ct, turn_bk, turn_rt, wipeR, eq_self, not_true_eq_false, not_false_eq_true, ite_true, ite_false, if_true, if_false, ne_eq, qd0, List.map_cons, List.map_nil, List.length_cons, List.length_nil, List.replicate_succ, List.replicate_zero, List.cons_append, List.nil_append, Nat.reduceAdd, Nat.reduceSub, Nat.reduceMul, endW_rt, endW_nx, finR, isSh, IxO, seqT_shL, seqT_shT, seqT_lst, seqT_tup, atI_map, atI_c0, atI_c1, atI_c2, CE.plainC, Option.map_eq_some_iff, lenT_shL, lenT_shT, lenT_lst, lenT_tup, lenT_str, lenT_scr, lstOf_scr, tupOf_scr, T.scr.injEq, toD_scr, List.length_map, intD_int, intD_bool, max2_int, min2_int, truO_bool, truO_int, truO_list, truO_tuple, truO_none, isNone_int, isNone_none, isNone_list, isNone_tuple, isNone_str, isNone_bool, map_int_inj, qf0, qh0, SlO, Op2.C, Op2.g, Int.reduceToNat, Bk1.D, Bk2.D, atom_int, atom_bool, atom_none, atom_str, ↓uRepr_wp, ↓uRepr_pl, ↓uList_wp, ↓uList_pl, ↓uTuple_wp, ↓uTuple_pl, ↓uSorted_wp, ↓uSorted_pl, ↓uAbs_wp, ↓uAbs_pl, ↓uRev_wp, ↓uRev_pl, ↓uIsSeq_wp, ↓uIsSeq_pl, ↓bTo_wp, ↓bTo_pre, ↓bFrom_wp, ↓bFrom_pre, ↓iZip_wp, ↓bCount_wp, ↓bCount_pre, ↓bIndex_wp, ↓bIndex_pre, ↓bDivmod_wp, ↓bDivmod_pre, ↓iRange2_wp, ↓iRange3_wp, ↓bGetD_pre, ↓uListRange_wp, ↓uListRange_pl, ↓bListRange_wp, ↓bListRange_pre, ↓sRaise_wp, ↓nDict0_wp, ↓nDict0_pl, ↓iZipS_wp, ↓iZip3_wp, ↓iEnumL_wp, ↓uSumT_wp, ↓uSumT_pl, ↓tListStar_wp, ↓tListStar_pre, ↓uLen_wp, ↓uLen_pl, ↓uIsInt_wp, ↓uIsInt_pl, ↓uIsBool_wp, ↓uIsBool_pl, ↓uIsStr_wp, ↓uIsStr_pl, ↓uIsList_wp, ↓uIsList_pl, ↓uIsTuple_wp, ↓uIsTuple_pl, ↓bGetD_wp, uSumS_wp, uSumS_pl, irLawReelR]
  refine ⟨hcp, ?_⟩
  simp (config := {maxSteps := 2000000}) only [↓wpS, ↓wp1, ↓wpV, ↓wpO, ↓wpT, ↓wpL, ↓wpA, ↓wpI, ↓wpTg_name, ↓andThen, ↓rdVar, ↓argVar, ↓mvVar, ↓callW, qg0, qb0, Option.map_some, Option.map_none, view_tmp, view_var, tree_tmp, tree_var, lst_tmp, lst_var, tup_tmp, tup_var, toD_sh, toD_shs, toD_shsT, toD_lnil, shs_nil', lstOf_shL, lstOf_lst, tupOf_shT, tupOf_tup, lstOf_int, tupOf_int, lstOf_tupD, tupOf_lstD, lstOf_tup, tupOf_lst, lstOf_str, tupOf_str, shs_map, shs_cons, List.set_cons_succ, List.set_cons_zero, List.getElem?_cons_zero, List.getElem?_cons_succ, Option.join_some, Option.bind_some, Option.bind_none, Option.some.injEq, Prod.mk.injEq, T.sh.injEq, T.lst.injEq, T.tup.injEq, T.dct.injEq, PyData.int.injEq, PyData.str.injEq, PyData.bool.injEq, PyData.list.injEq, PyData.tuple.injEq, List.cons.injEq, exists_eq_left', exists_eq_left, exists_and_left, exists_and_right, exists_eq', exists_eq, exists_const, and_assoc, true_and, and_true, false_and, and_false, or_false, false_or, exists_false, true_implies, false_implies, implies_true, forall_eq', forall_eq, decide_eq_true_eq, decide_eq_false_iff_not, Bool.not_eq_true', Bool.not_eq_false', Bool.not_eq_true, Bool.not_eq_false, decide_true, decide_false, Bool.not_true, Bool.not_false, Bool.false_eq_true, Bool.true_eq_false, reduceCtorEq, CmpO, cmpX_eqI, cmpX_neI, cmpX_lt, cmpX_le, cmpX_gt, cmpX_ge, cmpX_eqS, cmpX_neS, cmpX_isN, cmpX_notN, cmpX_isB, PlusO, IntO, TimesO, turn_nx, turn_ct, turn_bk, turn_rt, wipeR, eq_self, not_true_eq_false, not_false_eq_true, ite_true, ite_false, if_true, if_false, ne_eq, qd0, List.map_cons, List.map_nil, List.length_cons, List.length_nil, List.replicate_succ, List.replicate_zero, List.cons_append, List.nil_append, Nat.reduceAdd, Nat.reduceSub, Nat.reduceMul, endW_rt, endW_nx, finR, isSh, IxO, seqT_shL, seqT_shT, seqT_lst, seqT_tup, atI_map, atI_c0, atI_c1, atI_c2, CE.plainC, Option.map_eq_some_iff, lenT_shL, lenT_shT, lenT_lst, lenT_tup, lenT_str, lenT_scr, lstOf_scr, tupOf_scr, T.scr.injEq, toD_scr, List.length_map, intD_int, intD_bool, max2_int, min2_int, truO_bool, truO_int, truO_list, truO_tuple, truO_none, isNone_int, isNone_none, isNone_list, isNone_tuple, isNone_str, isNone_bool, map_int_inj, qf0, qh0, SlO, Op2.C, Op2.g, Int.reduceToNat, Bk1.D, Bk2.D, atom_int, atom_bool, atom_none, atom_str, ↓uRepr_wp, ↓uRepr_pl, ↓uList_wp, ↓uList_pl, ↓uTuple_wp, ↓uTuple_pl, ↓uSorted_wp, ↓uSorted_pl, ↓uAbs_wp, ↓uAbs_pl, ↓uRev_wp, ↓uRev_pl, ↓uIsSeq_wp, ↓uIsSeq_pl, ↓bTo_wp, ↓bTo_pre, ↓bFrom_wp, ↓bFrom_pre, ↓iZip_wp, ↓bCount_wp, ↓bCount_pre, ↓bIndex_wp, ↓bIndex_pre, ↓bDivmod_wp, ↓bDivmod_pre, ↓iRange2_wp, ↓iRange3_wp, ↓bGetD_pre, ↓uListRange_wp, ↓uListRange_pl, ↓bListRange_wp, ↓bListRange_pre, ↓sRaise_wp, ↓nDict0_wp, ↓nDict0_pl, ↓iZipS_wp, ↓iZip3_wp, ↓iEnumL_wp, ↓uSumT_wp, ↓uSumT_pl, ↓tListStar_wp, ↓tListStar_pre, ↓uLen_wp, ↓uLen_pl, ↓uIsInt_wp, ↓uIsInt_pl, ↓uIsBool_wp, ↓uIsBool_pl, ↓uIsStr_wp, ↓uIsStr_pl, ↓uIsList_wp, ↓uIsList_pl, ↓uIsTuple_wp, ↓uIsTuple_pl, ↓bGetD_wp, uSumS_wp, uSumS_pl, kLawReel6R, ec]
  generalize hms : ns.take 63 = ms at *
  refine goFor_ind (fun rest ρ => ∃ (cs : List Int) (b : Int) (x2 : Option T), rest = cs.map .int ∧ ρ = [some (.scr ns), some (.sh (.int b)), x2, none] ∧ 0 ≤ b ∧ b < 2 ^ 140)
    (fun r rest ρ h K hK => ?_) (fun ρ h => ?_) _ _ ⟨ms, _, _, rfl, rfl, by decide, by decide⟩
  · obtain ⟨cs, b, x2, er, rfl, b0, b1⟩ := h
    match cs, er with
    | c :: cs, er =>
    obtain ⟨rfl, rfl⟩ : r = .int c ∧ rest = cs.map .int := by simpa using er
    simp (config := {maxSteps := 2000000}) only [↓wpS, ↓wp1, ↓wpV, ↓wpO, ↓wpT, ↓wpL, ↓wpA, ↓wpI, ↓wpTg_name, ↓andThen, ↓rdVar, ↓argVar, ↓mvVar, ↓callW, qg0, qb0, Option.map_some, Option.map_none, view_tmp, view_var, tree_tmp, tree_var, lst_tmp, lst_var, tup_tmp, tup_var, toD_sh, toD_shs, toD_shsT, toD_lnil, shs_nil', lstOf_shL, lstOf_lst, tupOf_shT, tupOf_tup, lstOf_int, tupOf_int, lstOf_tupD, tupOf_lstD, lstOf_tup, tupOf_lst, lstOf_str, tupOf_str, shs_map, shs_cons, List.set_cons_succ, List.set_cons_zero, List.getElem?_cons_zero, List.getElem?_cons_succ, Option.join_some, Option.bind_some, Option.bind_none, Option.some.injEq, Prod.mk.injEq, T.sh.injEq, T.lst.injEq, T.tup.injEq, T.dct.injEq, PyData.int.injEq, PyData.str.injEq, PyData.bool.injEq, PyData.list.injEq, PyData.tuple.injEq, List.cons.injEq, exists_eq_left', exists_eq_left, exists_and_left, exists_and_right, exists_eq', exists_eq, exists_const, and_assoc, true_and, and_true, false_and, and_false, or_false, false_or, exists_false, true_implies, false_implies, implies_true, forall_eq', forall_eq, decide_eq_true_eq, decide_eq_false_iff_not, Bool.not_eq_true', Bool.not_eq_false', Bool.not_eq_true, Bool.not_eq_false, decide_true, decide_false, Bool.not_true, Bool.not_false, Bool.false_eq_true, Bool.true_eq_false, reduceCtorEq, CmpO, cmpX_eqI, cmpX_neI, cmpX_lt, cmpX_le, cmpX_gt, cmpX_ge, cmpX_eqS, cmpX_neS, cmpX_isN, cmpX_notN, cmpX_isB, PlusO, IntO, TimesO, turn_nx, turn_ct, turn_bk, turn_rt, wipeR, eq_self, not_true_eq_false, not_false_eq_true, ite_true, ite_false, if_true, if_false, ne_eq, qd0, List.map_cons, List.map_nil, List.length_cons, List.length_nil, List.replicate_succ, List.replicate_zero, List.cons_append, List.nil_append, Nat.reduceAdd, Nat.reduceSub, Nat.reduceMul, endW_rt, endW_nx, finR, isSh, IxO, seqT_shL, seqT_shT, seqT_lst, seqT_tup, atI_map, atI_c0, atI_c1, atI_c2, CE.plainC, Option.map_eq_some_iff, lenT_shL, lenT_shT, lenT_lst, lenT_tup, lenT_str, lenT_scr, lstOf_scr, tupOf_scr, T.scr.injEq, toD_scr, List.length_map, intD_int, intD_bool, max2_int, min2_int, truO_bool, truO_int, truO_list, truO_tuple, truO_none, isNone_int, isNone_none, isNone_list, isNone_tuple, isNone_str, isNone_bool, map_int_inj, qf0, qh0, SlO, Op2.C, Op2.g, Int.reduceToNat, Bk1.D, Bk2.D, atom_int, atom_bool, atom_none, atom_str, ↓uRepr_wp, ↓uRepr_pl, ↓uList_wp, ↓uList_pl, ↓uTuple_wp, ↓uTuple_pl, ↓uSorted_wp, ↓uSorted_pl, ↓uAbs_wp, ↓uAbs_pl, ↓uRev_wp, ↓uRev_pl, ↓uIsSeq_wp, ↓uIsSeq_pl, ↓bTo_wp, ↓bTo_pre, ↓bFrom_wp, ↓bFrom_pre, ↓iZip_wp, ↓bCount_wp, ↓bCount_pre, ↓bIndex_wp, ↓bIndex_pre, ↓bDivmod_wp, ↓bDivmod_pre, ↓iRange2_wp, ↓iRange3_wp, ↓bGetD_pre, ↓uListRange_wp, ↓uListRange_pl, ↓bListRange_wp, ↓bListRange_pre, ↓sRaise_wp, ↓nDict0_wp, ↓nDict0_pl, ↓iZipS_wp, ↓iZip3_wp, ↓iEnumL_wp, ↓uSumT_wp, ↓uSumT_pl, ↓tListStar_wp, ↓tListStar_pre, ↓uLen_wp, ↓uLen_pl, ↓uIsInt_wp, ↓uIsInt_pl, ↓uIsBool_wp, ↓uIsBool_pl, ↓uIsStr_wp, ↓uIsStr_pl, ↓uIsList_wp, ↓uIsList_pl, ↓uIsTuple_wp, ↓uIsTuple_pl, ↓bGetD_wp, uSumS_wp, uSumS_pl, lLawReel5R]
    have := stir_mod (b * b + c % 1000000000000000003 + 29)
    refine ⟨stir_mul b0 b1, by decide, hcp2, hcp3, hm3, by decide, hK _ ⟨cs, _, _, rfl, rfl, this.1, this.2⟩⟩
  · obtain ⟨cs, b, x2, er, rfl, b0, b1⟩ := h
    simp (config := {maxSteps := 2000000}) only [↓wpS, ↓wp1, ↓wpV, ↓wpO, ↓wpT, ↓wpL, ↓wpA, ↓wpI, ↓wpTg_name, ↓andThen, ↓rdVar, ↓argVar, ↓mvVar, ↓callW, qg0, qb0, Option.map_some, Option.map_none, view_tmp, view_var, tree_tmp, tree_var, lst_tmp, lst_var, tup_tmp, tup_var, toD_sh, toD_shs, toD_shsT, toD_lnil, shs_nil', lstOf_shL, lstOf_lst, tupOf_shT, tupOf_tup, lstOf_int, tupOf_int, lstOf_tupD, tupOf_lstD, lstOf_tup, tupOf_lst, lstOf_str, tupOf_str, shs_map, shs_cons, List.set_cons_succ, List.set_cons_zero, List.getElem?_cons_zero, List.getElem?_cons_succ, Option.join_some, Option.bind_some, Option.bind_none, Option.some.injEq, Prod.mk.injEq, T.sh.injEq, T.lst.injEq, T.tup.injEq, T.dct.injEq, PyData.int.injEq, PyData.str.injEq, PyData.bool.injEq, PyData.list.injEq, PyData.tuple.injEq, List.cons.injEq, exists_eq_left', exists_eq_left, exists_and_left, exists_and_right, exists_eq', exists_eq, exists_const, and_assoc, true_and, and_true, false_and, and_false, or_false, false_or, exists_false, true_implies, false_implies, implies_true, forall_eq', forall_eq, decide_eq_true_eq, decide_eq_false_iff_not, Bool.not_eq_true', Bool.not_eq_false', Bool.not_eq_true, Bool.not_eq_false, decide_true, decide_false, Bool.not_true, Bool.not_false, Bool.false_eq_true, Bool.true_eq_false, reduceCtorEq, CmpO, cmpX_eqI, cmpX_neI, cmpX_lt, cmpX_le, cmpX_gt, cmpX_ge, cmpX_eqS, cmpX_neS, cmpX_isN, cmpX_notN, cmpX_isB, PlusO, IntO, TimesO, turn_nx, turn_ct, turn_bk, turn_rt, wipeR, eq_self, not_true_eq_false, not_false_eq_true, ite_true, ite_false, if_true, if_false, ne_eq, qd0, List.map_cons, List.map_nil, List.length_cons, List.length_nil, List.replicate_succ, List.replicate_zero, List.cons_append, List.nil_append, Nat.reduceAdd, Nat.reduceSub, Nat.reduceMul, endW_rt, endW_nx, finR, isSh, IxO, seqT_shL, seqT_shT, seqT_lst, seqT_tup, atI_map, atI_c0, atI_c1, atI_c2, CE.plainC, Option.map_eq_some_iff, lenT_shL, lenT_shT, lenT_lst, lenT_tup, lenT_str, lenT_scr, lstOf_scr, tupOf_scr, T.scr.injEq, toD_scr, List.length_map, intD_int, intD_bool, max2_int, min2_int, truO_bool, truO_int, truO_list, truO_tuple, truO_none, isNone_int, isNone_none, isNone_list, isNone_tuple, isNone_str, isNone_bool, map_int_inj, qf0, qh0, SlO, Op2.C, Op2.g, Int.reduceToNat, Bk1.D, Bk2.D, atom_int, atom_bool, atom_none, atom_str, ↓uRepr_wp, ↓uRepr_pl, ↓uList_wp, ↓uList_pl, ↓uTuple_wp, ↓uTuple_pl, ↓uSorted_wp, ↓uSorted_pl, ↓uAbs_wp, ↓uAbs_pl, ↓uRev_wp, ↓uRev_pl, ↓uIsSeq_wp, ↓uIsSeq_pl, ↓bTo_wp, ↓bTo_pre, ↓bFrom_wp, ↓bFrom_pre, ↓iZip_wp, ↓bCount_wp, ↓bCount_pre, ↓bIndex_wp, ↓bIndex_pre, ↓bDivmod_wp, ↓bDivmod_pre, ↓iRange2_wp, ↓iRange3_wp, ↓bGetD_pre, ↓uListRange_wp, ↓uListRange_pl, ↓bListRange_wp, ↓bListRange_pre, ↓sRaise_wp, ↓nDict0_wp, ↓nDict0_pl, ↓iZipS_wp, ↓iZip3_wp, ↓iEnumL_wp, ↓uSumT_wp, ↓uSumT_pl, ↓tListStar_wp, ↓tListStar_pre, ↓uLen_wp, ↓uLen_pl, ↓uIsInt_wp, ↓uIsInt_pl, ↓uIsBool_wp, ↓uIsBool_pl, ↓uIsStr_wp, ↓uIsStr_pl, ↓uIsList_wp, ↓uIsList_pl, ↓uIsTuple_wp, ↓uIsTuple_pl, ↓bGetD_wp, uSumS_wp, uSumS_pl, kLawReel4R, ec, hms]
    refine ⟨by omega, goLc_filterM _ (fun c : Int => decide (10 ^ 18 ≤ c)) (fun c : Int => .sh (.int (c - 10 ^ 18))) (fun c hc K K' hK hK' => ?_) ?_⟩
    · simp (config := {maxSteps := 2000000}) only [↓wpS, ↓wp1, ↓wpV, ↓wpO, ↓wpT, ↓wpL, ↓wpA, ↓wpI, ↓wpTg_name, ↓andThen, ↓rdVar, ↓argVar, ↓mvVar, ↓callW, qg0, qb0, Option.map_some, Option.map_none, view_tmp, view_var, tree_tmp, tree_var, lst_tmp, lst_var, tup_tmp, tup_var, toD_sh, toD_shs, toD_shsT, toD_lnil, shs_nil', lstOf_shL, lstOf_lst, tupOf_shT, tupOf_tup, lstOf_int, tupOf_int, lstOf_tupD, tupOf_lstD, lstOf_tup, tupOf_lst, lstOf_str, tupOf_str, shs_map, shs_cons, List.set_cons_succ, List.set_cons_zero, List.getElem?_cons_zero, List.getElem?_cons_succ, Option.join_some, Option.bind_some, Option.bind_none, Option.some.injEq, Prod.mk.injEq, T.sh.injEq, T.lst.injEq, T.tup.injEq, T.dct.injEq, PyData.int.injEq, PyData.str.injEq, PyData.bool.injEq, PyData.list.injEq, PyData.tuple.injEq, List.cons.injEq, exists_eq_left', exists_eq_left, exists_and_left, exists_and_right, exists_eq', exists_eq, exists_const, and_assoc, true_and, and_true, false_and, and_false, or_false, false_or, exists_false, true_implies, false_implies, implies_true, forall_eq', forall_eq, decide_eq_true_eq, decide_eq_false_iff_not, Bool.not_eq_true', Bool.not_eq_false', Bool.not_eq_true, Bool.not_eq_false, decide_true, decide_false, Bool.not_true, Bool.not_false, Bool.false_eq_true, Bool.true_eq_false, reduceCtorEq, CmpO, cmpX_eqI, cmpX_neI, cmpX_lt, cmpX_le, cmpX_gt, cmpX_ge, cmpX_eqS, cmpX_neS, cmpX_isN, cmpX_notN, cmpX_isB, PlusO, IntO, TimesO, turn_nx, turn_ct, turn_bk, turn_rt, wipeR, eq_self, not_true_eq_false, not_false_eq_true, ite_true, ite_false, if_true, if_false, ne_eq, qd0, List.map_cons, List.map_nil, List.length_cons, List.length_nil, List.replicate_succ, List.replicate_zero, List.cons_append, List.nil_append, Nat.reduceAdd, Nat.reduceSub, Nat.reduceMul, endW_rt, endW_nx, finR, isSh, IxO, seqT_shL, seqT_shT, seqT_lst, seqT_tup, atI_map, atI_c0, atI_c1, atI_c2, CE.plainC, Option.map_eq_some_iff, lenT_shL, lenT_shT, lenT_lst, lenT_tup, lenT_str, lenT_scr, lstOf_scr, tupOf_scr, T.scr.injEq, toD_scr, List.length_map, intD_int, intD_bool, max2_int, min2_int, truO_bool, truO_int, truO_list, truO_tuple, truO_none, isNone_int, isNone_none, isNone_list, isNone_tuple, isNone_str, isNone_bool, map_int_inj, qf0, qh0, SlO, Op2.C, Op2.g, Int.reduceToNat, Bk1.D, Bk2.D, atom_int, atom_bool, atom_none, atom_str, ↓uRepr_wp, ↓uRepr_pl, ↓uList_wp, ↓uList_pl, ↓uTuple_wp, ↓uTuple_pl, ↓uSorted_wp, ↓uSorted_pl, ↓uAbs_wp, ↓uAbs_pl, ↓uRev_wp, ↓uRev_pl, ↓uIsSeq_wp, ↓uIsSeq_pl, ↓bTo_wp, ↓bTo_pre, ↓bFrom_wp, ↓bFrom_pre, ↓iZip_wp, ↓bCount_wp, ↓bCount_pre, ↓bIndex_wp, ↓bIndex_pre, ↓bDivmod_wp, ↓bDivmod_pre, ↓iRange2_wp, ↓iRange3_wp, ↓bGetD_pre, ↓uListRange_wp, ↓uListRange_pl, ↓bListRange_wp, ↓bListRange_pre, ↓sRaise_wp, ↓nDict0_wp, ↓nDict0_pl, ↓iZipS_wp, ↓iZip3_wp, ↓iEnumL_wp, ↓uSumT_wp, ↓uSumT_pl, ↓tListStar_wp, ↓tListStar_pre, ↓uLen_wp, ↓uLen_pl, ↓uIsInt_wp, ↓uIsInt_pl, ↓uIsBool_wp, ↓uIsBool_pl, ↓uIsStr_wp, ↓uIsStr_pl, ↓uIsList_wp, ↓uIsList_pl, ↓uIsTuple_wp, ↓uIsTuple_pl, ↓bGetD_wp, uSumS_wp, uSumS_pl, eLawReel2R, tLawReel3R]
      exact ⟨hcp4, fun h => ⟨hcp4, hK (decide_eq_true h) _ rfl⟩, fun h => hK' (decide_eq_false h) _ rfl⟩
    · have e1 : List.map (fun c : Int => T.sh (PyData.int (c - 10 ^ 18))) (ms.filter fun c => decide (10 ^ 18 ≤ c)) = ((((ms.filter fun c => decide (10 ^ 18 ≤ c)).map fun c => c - 10 ^ 18).map PyData.int).map T.sh) := by simp
      have h1 : ∀ x ∈ (ms.filter fun c => decide (10 ^ 18 ≤ c)).map fun c => c - 10 ^ 18, 0 ≤ x := fun x hx => by
        obtain ⟨c, hc, rfl⟩ := List.mem_map.mp hx
        have := of_decide_eq_true (List.mem_filter.mp hc).2
        omega
      have h2 : ((ms.filter fun c => decide (10 ^ 18 ≤ c)).map fun c => c - 10 ^ 18).length ≤ 63 := by
        rw [List.length_map]
        exact Nat.le_trans (List.length_filter_le _ _) hl
      rw [e1]
      generalize (ms.filter fun c => decide (10 ^ 18 ≤ c)).map (fun c => c - 10 ^ 18) = g at *
      simp (config := {maxSteps := 2000000}) only [↓wpS, ↓wp1, ↓wpV, ↓wpO, ↓wpT, ↓wpL, ↓wpA, ↓wpI, ↓wpTg_name, ↓andThen, ↓rdVar, ↓argVar, ↓mvVar, ↓callW, qg0, qb0, Option.map_some, Option.map_none, view_tmp, view_var, tree_tmp, tree_var, lst_tmp, lst_var, tup_tmp, tup_var, toD_sh, toD_shs, toD_shsT, toD_lnil, shs_nil', lstOf_shL, lstOf_lst, tupOf_shT, tupOf_tup, lstOf_int, tupOf_int, lstOf_tupD, tupOf_lstD, lstOf_tup, tupOf_lst, lstOf_str, tupOf_str, shs_map, shs_cons, List.set_cons_succ, List.set_cons_zero, List.getElem?_cons_zero, List.getElem?_cons_succ, Option.join_some, Option.bind_some, Option.bind_none, Option.some.injEq, Prod.mk.injEq, T.sh.injEq, T.lst.injEq, T.tup.injEq, T.dct.injEq, PyData.int.injEq, PyData.str.injEq, PyData.bool.injEq, PyData.list.injEq, PyData.tuple.injEq, List.cons.injEq, exists_eq_left', exists_eq_left, exists_and_left, exists_and_right, exists_eq', exists_eq, exists_const, and_assoc, true_and, and_true, false_and, and_false, or_false, false_or, exists_false, true_implies, false_implies, implies_true, forall_eq', forall_eq, decide_eq_true_eq, decide_eq_false_iff_not, Bool.not_eq_true', Bool.not_eq_false', Bool.not_eq_true, Bool.not_eq_false, decide_true, decide_false, Bool.not_true, Bool.not_false, Bool.false_eq_true, Bool.true_eq_false, reduceCtorEq, CmpO, cmpX_eqI, cmpX_neI, cmpX_lt, cmpX_le, cmpX_gt, cmpX_ge, cmpX_eqS, cmpX_neS, cmpX_isN, cmpX_notN, cmpX_isB, PlusO, IntO, TimesO, turn_nx, turn_ct, turn_bk, turn_rt, wipeR, eq_self, not_true_eq_false, not_false_eq_true, ite_true, ite_false, if_true, if_false, ne_eq, qd0, List.map_cons, List.map_nil, List.length_cons, List.length_nil, List.replicate_succ, List.replicate_zero, List.cons_append, List.nil_append, Nat.reduceAdd, Nat.reduceSub, Nat.reduceMul, endW_rt, endW_nx, finR, isSh, IxO, seqT_shL, seqT_shT, seqT_lst, seqT_tup, atI_map, atI_c0, atI_c1, atI_c2, CE.plainC, Option.map_eq_some_iff, lenT_shL, lenT_shT, lenT_lst, lenT_tup, lenT_str, lenT_scr, lstOf_scr, tupOf_scr, T.scr.injEq, toD_scr, List.length_map, intD_int, intD_bool, max2_int, min2_int, truO_bool, truO_int, truO_list, truO_tuple, truO_none, isNone_int, isNone_none, isNone_list, isNone_tuple, isNone_str, isNone_bool, map_int_inj, qf0, qh0, SlO, Op2.C, Op2.g, Int.reduceToNat, Bk1.D, Bk2.D, atom_int, atom_bool, atom_none, atom_str, ↓uRepr_wp, ↓uRepr_pl, ↓uList_wp, ↓uList_pl, ↓uTuple_wp, ↓uTuple_pl, ↓uSorted_wp, ↓uSorted_pl, ↓uAbs_wp, ↓uAbs_pl, ↓uRev_wp, ↓uRev_pl, ↓uIsSeq_wp, ↓uIsSeq_pl, ↓bTo_wp, ↓bTo_pre, ↓bFrom_wp, ↓bFrom_pre, ↓iZip_wp, ↓bCount_wp, ↓bCount_pre, ↓bIndex_wp, ↓bIndex_pre, ↓bDivmod_wp, ↓bDivmod_pre, ↓iRange2_wp, ↓iRange3_wp, ↓bGetD_pre, ↓uListRange_wp, ↓uListRange_pl, ↓bListRange_wp, ↓bListRange_pre, ↓sRaise_wp, ↓nDict0_wp, ↓nDict0_pl, ↓iZipS_wp, ↓iZip3_wp, ↓iEnumL_wp, ↓uSumT_wp, ↓uSumT_pl, ↓tListStar_wp, ↓tListStar_pre, ↓uLen_wp, ↓uLen_pl, ↓uIsInt_wp, ↓uIsInt_pl, ↓uIsBool_wp, ↓uIsBool_pl, ↓uIsStr_wp, ↓uIsStr_pl, ↓uIsList_wp, ↓uIsList_pl, ↓uIsTuple_wp, ↓uIsTuple_pl, ↓bGetD_wp, uSumS_wp, uSumS_pl, kLawReel1R, ec, hms]
      refine ⟨by omega, goLc_mapM _ (fun c : Int => .sh (.int (c % 1000003))) (fun c hc K hK => ?_) ?_⟩
      · simp (config := {maxSteps := 2000000}) only [↓wpS, ↓wp1, ↓wpV, ↓wpO, ↓wpT, ↓wpL, ↓wpA, ↓wpI, ↓wpTg_name, ↓andThen, ↓rdVar, ↓argVar, ↓mvVar, ↓callW, qg0, qb0, Option.map_some, Option.map_none, view_tmp, view_var, tree_tmp, tree_var, lst_tmp, lst_var, tup_tmp, tup_var, toD_sh, toD_shs, toD_shsT, toD_lnil, shs_nil', lstOf_shL, lstOf_lst, tupOf_shT, tupOf_tup, lstOf_int, tupOf_int, lstOf_tupD, tupOf_lstD, lstOf_tup, tupOf_lst, lstOf_str, tupOf_str, shs_map, shs_cons, List.set_cons_succ, List.set_cons_zero, List.getElem?_cons_zero, List.getElem?_cons_succ, Option.join_some, Option.bind_some, Option.bind_none, Option.some.injEq, Prod.mk.injEq, T.sh.injEq, T.lst.injEq, T.tup.injEq, T.dct.injEq, PyData.int.injEq, PyData.str.injEq, PyData.bool.injEq, PyData.list.injEq, PyData.tuple.injEq, List.cons.injEq, exists_eq_left', exists_eq_left, exists_and_left, exists_and_right, exists_eq', exists_eq, exists_const, and_assoc, true_and, and_true, false_and, and_false, or_false, false_or, exists_false, true_implies, false_implies, implies_true, forall_eq', forall_eq, decide_eq_true_eq, decide_eq_false_iff_not, Bool.not_eq_true', Bool.not_eq_false', Bool.not_eq_true, Bool.not_eq_false, decide_true, decide_false, Bool.not_true, Bool.not_false, Bool.false_eq_true, Bool.true_eq_false, reduceCtorEq, CmpO, cmpX_eqI, cmpX_neI, cmpX_lt, cmpX_le, cmpX_gt, cmpX_ge, cmpX_eqS, cmpX_neS, cmpX_isN, cmpX_notN, cmpX_isB, PlusO, IntO, TimesO, turn_nx, turn_ct, turn_bk, turn_rt, wipeR, eq_self, not_true_eq_false, not_false_eq_true, ite_true, ite_false, if_true, if_false, ne_eq, qd0, List.map_cons, List.map_nil, List.length_cons, List.length_nil, List.replicate_succ, List.replicate_zero, List.cons_append, List.nil_append, Nat.reduceAdd, Nat.reduceSub, Nat.reduceMul, endW_rt, endW_nx, finR, isSh, IxO, seqT_shL, seqT_shT, seqT_lst, seqT_tup, atI_map, atI_c0, atI_c1, atI_c2, CE.plainC, Option.map_eq_some_iff, lenT_shL, lenT_shT, lenT_lst, lenT_tup, lenT_str, lenT_scr, lstOf_scr, tupOf_scr, T.scr.injEq, toD_scr, List.length_map, intD_int, intD_bool, max2_int, min2_int, truO_bool, truO_int, truO_list, truO_tuple, truO_none, isNone_int, isNone_none, isNone_list, isNone_tuple, isNone_str, isNone_bool, map_int_inj, qf0, qh0, SlO, Op2.C, Op2.g, Int.reduceToNat, Bk1.D, Bk2.D, atom_int, atom_bool, atom_none, atom_str, ↓uRepr_wp, ↓uRepr_pl, ↓uList_wp, ↓uList_pl, ↓uTuple_wp, ↓uTuple_pl, ↓uSorted_wp, ↓uSorted_pl, ↓uAbs_wp, ↓uAbs_pl, ↓uRev_wp, ↓uRev_pl, ↓uIsSeq_wp, ↓uIsSeq_pl, ↓bTo_wp, ↓bTo_pre, ↓bFrom_wp, ↓bFrom_pre, ↓iZip_wp, ↓bCount_wp, ↓bCount_pre, ↓bIndex_wp, ↓bIndex_pre, ↓bDivmod_wp, ↓bDivmod_pre, ↓iRange2_wp, ↓iRange3_wp, ↓bGetD_pre, ↓uListRange_wp, ↓uListRange_pl, ↓bListRange_wp, ↓bListRange_pre, ↓sRaise_wp, ↓nDict0_wp, ↓nDict0_pl, ↓iZipS_wp, ↓iZip3_wp, ↓iEnumL_wp, ↓uSumT_wp, ↓uSumT_pl, ↓tListStar_wp, ↓tListStar_pre, ↓uLen_wp, ↓uLen_pl, ↓uIsInt_wp, ↓uIsInt_pl, ↓uIsBool_wp, ↓uIsBool_pl, ↓uIsStr_wp, ↓uIsStr_pl, ↓uIsList_wp, ↓uIsList_pl, ↓uIsTuple_wp, ↓uIsTuple_pl, ↓bGetD_wp, uSumS_wp, uSumS_pl, eLawReel0R]
        exact ⟨by decide, hK _ rfl⟩
      · have e2 : List.map (fun c : Int => T.sh (PyData.int (c % 1000003))) ms = ((ms.map fun c => c % 1000003).map PyData.int).map T.sh := by simp
        have h3 : ∀ x ∈ ms.map fun c : Int => c % 1000003, 0 ≤ x ∧ x < 1000003 := fun x hx => by
          obtain ⟨c, hc, rfl⟩ := List.mem_map.mp hx
          omega
        have h4 : (ms.map fun c : Int => c % 1000003).length ≤ 63 := by rw [List.length_map]; exact hl
        rw [e2]
        generalize ms.map (fun c : Int => c % 1000003) = dg at *
        simp (config := {maxSteps := 2000000}) only [↓wpS, ↓wp1, ↓wpV, ↓wpO, ↓wpT, ↓wpL, ↓wpA, ↓wpI, ↓wpTg_name, ↓andThen, ↓rdVar, ↓argVar, ↓mvVar, ↓callW, qg0, qb0, Option.map_some, Option.map_none, view_tmp, view_var, tree_tmp, tree_var, lst_tmp, lst_var, tup_tmp, tup_var, toD_sh, toD_shs, toD_shsT, toD_lnil, shs_nil', lstOf_shL, lstOf_lst, tupOf_shT, tupOf_tup, lstOf_int, tupOf_int, lstOf_tupD, tupOf_lstD, lstOf_tup, tupOf_lst, lstOf_str, tupOf_str, shs_map, shs_cons, List.set_cons_succ, List.set_cons_zero, List.getElem?_cons_zero, List.getElem?_cons_succ, Option.join_some, Option.bind_some, Option.bind_none, Option.some.injEq, Prod.mk.injEq, T.sh.injEq, T.lst.injEq, T.tup.injEq, T.dct.injEq, PyData.int.injEq, PyData.str.injEq, PyData.bool.injEq, PyData.list.injEq, PyData.tuple.injEq, List.cons.injEq, exists_eq_left', exists_eq_left, exists_and_left, exists_and_right, exists_eq', exists_eq, exists_const, and_assoc, true_and, and_true, false_and, and_false, or_false, false_or, exists_false, true_implies, false_implies, implies_true, forall_eq', forall_eq, decide_eq_true_eq, decide_eq_false_iff_not, Bool.not_eq_true', Bool.not_eq_false', Bool.not_eq_true, Bool.not_eq_false, decide_true, decide_false, Bool.not_true, Bool.not_false, Bool.false_eq_true, Bool.true_eq_false, reduceCtorEq, CmpO, cmpX_eqI, cmpX_neI, cmpX_lt, cmpX_le, cmpX_gt, cmpX_ge, cmpX_eqS, cmpX_neS, cmpX_isN, cmpX_notN, cmpX_isB, PlusO, IntO, TimesO, turn_nx, turn_ct, turn_bk, turn_rt, wipeR, eq_self, not_true_eq_false, not_false_eq_true, ite_true, ite_false, if_true, if_false, ne_eq, qd0, List.map_cons, List.map_nil, List.length_cons, List.length_nil, List.replicate_succ, List.replicate_zero, List.cons_append, List.nil_append, Nat.reduceAdd, Nat.reduceSub, Nat.reduceMul, endW_rt, endW_nx, finR, isSh, IxO, seqT_shL, seqT_shT, seqT_lst, seqT_tup, atI_map, atI_c0, atI_c1, atI_c2, CE.plainC, Option.map_eq_some_iff, lenT_shL, lenT_shT, lenT_lst, lenT_tup, lenT_str, lenT_scr, lstOf_scr, tupOf_scr, T.scr.injEq, toD_scr, List.length_map, intD_int, intD_bool, max2_int, min2_int, truO_bool, truO_int, truO_list, truO_tuple, truO_none, isNone_int, isNone_none, isNone_list, isNone_tuple, isNone_str, isNone_bool, map_int_inj, qf0, qh0, SlO, Op2.C, Op2.g, Int.reduceToNat, Bk1.D, Bk2.D, atom_int, atom_bool, atom_none, atom_str, ↓uRepr_wp, ↓uRepr_pl, ↓uList_wp, ↓uList_pl, ↓uTuple_wp, ↓uTuple_pl, ↓uSorted_wp, ↓uSorted_pl, ↓uAbs_wp, ↓uAbs_pl, ↓uRev_wp, ↓uRev_pl, ↓uIsSeq_wp, ↓uIsSeq_pl, ↓bTo_wp, ↓bTo_pre, ↓bFrom_wp, ↓bFrom_pre, ↓iZip_wp, ↓bCount_wp, ↓bCount_pre, ↓bIndex_wp, ↓bIndex_pre, ↓bDivmod_wp, ↓bDivmod_pre, ↓iRange2_wp, ↓iRange3_wp, ↓bGetD_pre, ↓uListRange_wp, ↓uListRange_pl, ↓bListRange_wp, ↓bListRange_pre, ↓sRaise_wp, ↓nDict0_wp, ↓nDict0_pl, ↓iZipS_wp, ↓iZip3_wp, ↓iEnumL_wp, ↓uSumT_wp, ↓uSumT_pl, ↓tListStar_wp, ↓tListStar_pre, ↓uLen_wp, ↓uLen_pl, ↓uIsInt_wp, ↓uIsInt_pl, ↓uIsBool_wp, ↓uIsBool_pl, ↓uIsStr_wp, ↓uIsStr_pl, ↓uIsList_wp, ↓uIsList_pl, ↓uIsTuple_wp, ↓uIsTuple_pl, ↓bGetD_wp, uSumS_wp, uSumS_pl]
        have e3 : dg.map PyData.int ++ [PyData.int 57] = (dg ++ [57]).map PyData.int := by simp
        rw [e3]
        refine ⟨by omega, by omega, by omega, q (g, dg ++ [57], 0, b) ⟨⟨h2, h1⟩, ⟨by show 1 ≤ (dg ++ [57]).length; rw [List.length_append]; simp, by show (dg ++ [57]).length ≤ 64; rw [List.length_append]; simp; omega, fun x hx => ?_⟩, Int.le_refl _, b0, b1⟩⟩
        rcases List.mem_append.mp hx with hx | hx
        · exact h3 x hx
        · rw [List.mem_singleton.mp hx]; decide
def wDrawR : Wp := fun as Q _ => ∃ p m, as = [.lst (rlL p), .sh (.int m)] ∧ RlOk p ∧ (1 ≤ m ∧ m ≤ 10 ^ 40) ∧ ∀ v p', RlOk p' → 0 ≤ v → v < m → Q (.sh (.int v)) [.lst (rlL p'), .sh (.int m)]
theorem vcDrawR (Γ : Gam) (as : List T) (Q : T → List T → Prop) (E : Value → XF → List T → Prop) (h : wDrawR as Q E) : wpS Γ irLawDrawR (qd0 ["reel", "many", "rest", "extra", "stir"] as) (endW as Q) := by
  obtain ⟨p, m, rfl, ok, ⟨m1, m2⟩, q⟩ := h
  have hsz := sizeLine_eq
  obtain ⟨g, dg, c, s⟩ := p
  obtain ⟨⟨g1, g2⟩, ⟨d1, d2, d3⟩, c0, s0, s1⟩ := ok
  simp only at g1 g2 d1 d2 d3 c0 s0 s1
  have hq : ∀ v g' dg' c' s', RlOk (g', dg', c', s') → 0 ≤ v → v < m → Q (.sh (.int v)) [.lst [.sh (iL g'), .sh (iL dg'), .sh (.int c'), .sh (.int s')], .sh (.int m)] := fun v g' dg' c' s' h => q v _ h
  have e0 : rlL (g, dg, c, s) = [.sh (iL g), .sh (iL dg), .sh (.int c), .sh (.int s)] := rfl
  rw [e0]
  clear q e0
  have hi0 : ixN 4 0 = some 0 := rfl
  have hi2 : ixN 4 2 = some 2 := rfl
  have hi3 : ixN 4 3 = some 3 := rfl
  have hmod := Int.emod_nonneg (c + 1) (show (dg.length : Int) ≠ 0 by omega)
  have hmod2 := Int.emod_lt_of_pos (c + 1) (show (0 : Int) < dg.length by omega)
  have hcp2 : CPow 2 64 := ⟨by decide, by decide, by decide⟩
  have hcp3 : CPow 2 63 := ⟨by decide, by decide, by decide⟩
  have hcp5 : CPow 2 41 := ⟨by decide, by decide, by decide⟩
  have hm3 : CMulO (2 ^ 64) (2 ^ 63) := .inr (.inr ⟨by decide, by decide⟩)
  simp (config := {maxSteps := 2000000}) only [↓wpS, ↓wp1, ↓wpV, ↓wpO, ↓wpT, ↓wpL, ↓wpA, ↓wpI, ↓wpTg_name, ↓andThen, ↓rdVar, ↓argVar, ↓mvVar, ↓callW, qg0, qb0, Option.map_some, Option.map_none, view_tmp, view_var, tree_tmp, tree_var, lst_tmp, lst_var, tup_tmp, tup_var, toD_sh, toD_shs, toD_shsT, toD_lnil, shs_nil', lstOf_shL, lstOf_lst, tupOf_shT, tupOf_tup, lstOf_int, tupOf_int, lstOf_tupD, tupOf_lstD, lstOf_tup, tupOf_lst, lstOf_str, tupOf_str, shs_map, shs_cons, List.set_cons_succ, List.set_cons_zero, List.getElem?_cons_zero, List.getElem?_cons_succ, Option.join_some, Option.bind_some, Option.bind_none, Option.some.injEq, Prod.mk.injEq, T.sh.injEq, T.lst.injEq, T.tup.injEq, T.dct.injEq, PyData.int.injEq, PyData.str.injEq, PyData.bool.injEq, PyData.list.injEq, PyData.tuple.injEq, List.cons.injEq, exists_eq_left', exists_eq_left, exists_and_left, exists_and_right, exists_eq', exists_eq, exists_const, and_assoc, true_and, and_true, false_and, and_false, or_false, false_or, exists_false, true_implies, false_implies, implies_true, forall_eq', forall_eq, decide_eq_true_eq, decide_eq_false_iff_not, Bool.not_eq_true', Bool.not_eq_false', Bool.not_eq_true, Bool.not_eq_false, decide_true, decide_false, Bool.not_true, Bool.not_false, Bool.false_eq_true, Bool.true_eq_false, reduceCtorEq, CmpO, cmpX_eqI, cmpX_neI, cmpX_lt, cmpX_le, cmpX_gt, cmpX_ge, cmpX_eqS, cmpX_neS, cmpX_isN, cmpX_notN, cmpX_isB, PlusO, IntO, TimesO, turn_nx, turn_ct, turn_bk, turn_rt, wipeR, eq_self, not_true_eq_false, not_false_eq_true, ite_true, ite_false, if_true, if_false, ne_eq, qd0, List.map_cons, List.map_nil, List.length_cons, List.length_nil, List.replicate_succ, List.replicate_zero, List.cons_append, List.nil_append, Nat.reduceAdd, Nat.reduceSub, Nat.reduceMul, endW_rt, endW_nx, finR, isSh, IxO, seqT_shL, seqT_shT, seqT_lst, seqT_tup, atI_map, atI_c0, atI_c1, atI_c2, CE.plainC, Option.map_eq_some_iff, lenT_shL, lenT_shT, lenT_lst, lenT_tup, lenT_str, lenT_scr, lstOf_scr, tupOf_scr, T.scr.injEq, toD_scr, List.length_map, intD_int, intD_bool, max2_int, min2_int, truO_bool, truO_int, truO_list, truO_tuple, truO_none, isNone_int, isNone_none, isNone_list, isNone_tuple, isNone_str, isNone_bool, map_int_inj, qf0, qh0, SlO, Op2.C, Op2.g, Int.reduceToNat, Bk1.D, Bk2.D, atom_int, atom_bool, atom_none, atom_str, ↓uRepr_wp, ↓uRepr_pl, ↓uList_wp, ↓uList_pl, ↓uTuple_wp, ↓uTuple_pl, ↓uSorted_wp, ↓uSorted_pl, ↓uAbs_wp, ↓uAbs_pl, ↓uRev_wp, ↓uRev_pl, ↓uIsSeq_wp, ↓uIsSeq_pl, ↓bTo_wp, ↓bTo_pre, ↓bFrom_wp, ↓bFrom_pre, ↓iZip_wp, ↓bCount_wp, ↓bCount_pre, ↓bIndex_wp, ↓bIndex_pre, ↓bDivmod_wp, ↓bDivmod_pre, ↓iRange2_wp, ↓iRange3_wp, ↓bGetD_pre, ↓uListRange_wp, ↓uListRange_pl, ↓bListRange_wp, ↓bListRange_pre, ↓sRaise_wp, ↓nDict0_wp, ↓nDict0_pl, ↓iZipS_wp, ↓iZip3_wp, ↓iEnumL_wp, ↓uSumT_wp, ↓uSumT_pl, ↓tListStar_wp, ↓tListStar_pre, ↓uLen_wp, ↓uLen_pl, ↓uIsInt_wp, ↓uIsInt_pl, ↓uIsBool_wp, ↓uIsBool_pl, ↓uIsStr_wp, ↓uIsStr_pl, ↓uIsList_wp, ↓uIsList_pl, ↓uIsTuple_wp, ↓uIsTuple_pl, ↓bGetD_wp, uSumS_wp, uSumS_pl, iL, irLawDrawR]
  simp only [cmpX_neNilI]
  refine ⟨by omega, fun hn => ?_, fun _ => ?_⟩
  · match g, hn with
    | r :: g, _ =>
    have r0 := g2 r List.mem_cons_self
    have g3 : ∀ x ∈ g, 0 ≤ x := fun x hx => g2 x (List.mem_cons_of_mem _ hx)
    have hd : CDivW r m := cdivw (by omega) m2
    have ec : Tee.cutD (PyData.int r :: List.map PyData.int g) (some 1) none = g.map PyData.int := by rw [cut_from (by decide)]; rfl
    rw [List.length_cons] at g1
    refine ⟨_, ⟨_, ⟨_, atI_c0 _ _, rfl⟩, rfl⟩, ?_⟩
    simp (config := {maxSteps := 2000000}) only [↓wpS, ↓wp1, ↓wpV, ↓wpO, ↓wpT, ↓wpL, ↓wpA, ↓wpI, ↓wpTg_name, ↓andThen, ↓rdVar, ↓argVar, ↓mvVar, ↓callW, qg0, qb0, Option.map_some, Option.map_none, view_tmp, view_var, tree_tmp, tree_var, lst_tmp, lst_var, tup_tmp, tup_var, toD_sh, toD_shs, toD_shsT, toD_lnil, shs_nil', lstOf_shL, lstOf_lst, tupOf_shT, tupOf_tup, lstOf_int, tupOf_int, lstOf_tupD, tupOf_lstD, lstOf_tup, tupOf_lst, lstOf_str, tupOf_str, shs_map, shs_cons, List.set_cons_succ, List.set_cons_zero, List.getElem?_cons_zero, List.getElem?_cons_succ, Option.join_some, Option.bind_some, Option.bind_none, Option.some.injEq, Prod.mk.injEq, T.sh.injEq, T.lst.injEq, T.tup.injEq, T.dct.injEq, PyData.int.injEq, PyData.str.injEq, PyData.bool.injEq, PyData.list.injEq, PyData.tuple.injEq, List.cons.injEq, exists_eq_left', exists_eq_left, exists_and_left, exists_and_right, exists_eq', exists_eq, exists_const, and_assoc, true_and, and_true, false_and, and_false, or_false, false_or, exists_false, true_implies, false_implies, implies_true, forall_eq', forall_eq, decide_eq_true_eq, decide_eq_false_iff_not, Bool.not_eq_true', Bool.not_eq_false', Bool.not_eq_true, Bool.not_eq_false, decide_true, decide_false, Bool.not_true, Bool.not_false, Bool.false_eq_true, Bool.true_eq_false, reduceCtorEq, CmpO, cmpX_eqI, cmpX_neI, cmpX_lt, cmpX_le, cmpX_gt, cmpX_ge, cmpX_eqS, cmpX_neS, cmpX_isN, cmpX_notN, cmpX_isB, PlusO, IntO, TimesO, turn_nx, turn_ct, turn_bk, turn_rt, wipeR, eq_self, not_true_eq_false, not_false_eq_true, ite_true, ite_false, if_true, if_false, ne_eq, qd0, List.map_cons, List.map_nil, List.length_cons, List.length_nil, List.replicate_succ, List.replicate_zero, List.cons_append, List.nil_append, Nat.reduceAdd, Nat.reduceSub, Nat.reduceMul, endW_rt, endW_nx, finR, isSh, IxO, seqT_shL, seqT_shT, seqT_lst, seqT_tup, atI_map, atI_c0, atI_c1, atI_c2, CE.plainC, Option.map_eq_some_iff, lenT_shL, lenT_shT, lenT_lst, lenT_tup, lenT_str, lenT_scr, lstOf_scr, tupOf_scr, T.scr.injEq, toD_scr, List.length_map, intD_int, intD_bool, max2_int, min2_int, truO_bool, truO_int, truO_list, truO_tuple, truO_none, isNone_int, isNone_none, isNone_list, isNone_tuple, isNone_str, isNone_bool, map_int_inj, qf0, qh0, SlO, Op2.C, Op2.g, Int.reduceToNat, Bk1.D, Bk2.D, atom_int, atom_bool, atom_none, atom_str, ↓uRepr_wp, ↓uRepr_pl, ↓uList_wp, ↓uList_pl, ↓uTuple_wp, ↓uTuple_pl, ↓uSorted_wp, ↓uSorted_pl, ↓uAbs_wp, ↓uAbs_pl, ↓uRev_wp, ↓uRev_pl, ↓uIsSeq_wp, ↓uIsSeq_pl, ↓bTo_wp, ↓bTo_pre, ↓bFrom_wp, ↓bFrom_pre, ↓iZip_wp, ↓bCount_wp, ↓bCount_pre, ↓bIndex_wp, ↓bIndex_pre, ↓bDivmod_wp, ↓bDivmod_pre, ↓iRange2_wp, ↓iRange3_wp, ↓bGetD_pre, ↓uListRange_wp, ↓uListRange_pl, ↓bListRange_wp, ↓bListRange_pre, ↓sRaise_wp, ↓nDict0_wp, ↓nDict0_pl, ↓iZipS_wp, ↓iZip3_wp, ↓iEnumL_wp, ↓uSumT_wp, ↓uSumT_pl, ↓tListStar_wp, ↓tListStar_pre, ↓uLen_wp, ↓uLen_pl, ↓uIsInt_wp, ↓uIsInt_pl, ↓uIsBool_wp, ↓uIsBool_pl, ↓uIsStr_wp, ↓uIsStr_pl, ↓uIsList_wp, ↓uIsList_pl, ↓uIsTuple_wp, ↓uIsTuple_pl, ↓bGetD_wp, uSumS_wp, uSumS_pl, kLawDraw6R, iL, hi0, ec]
    have hfin : ∀ g' : List Int, g'.length ≤ 63 → (∀ x ∈ g', 0 ≤ x) → Q (.sh (.int (r % m))) [.lst [.sh (.list (g'.map .int)), .sh (.list (dg.map .int)), .sh (.int c), .sh (.int s)], .sh (.int m)] := fun g' h1 h2 => hq (r % m) g' dg c s ⟨⟨h1, h2⟩, ⟨d1, d2, d3⟩, c0, s0, s1⟩ (Int.emod_nonneg _ (by omega)) (Int.emod_lt_of_pos _ (by omega))
    have hb : (if m ≤ r then (1 : Int) else 0) = 1 ∨ (if m ≤ r then (1 : Int) else 0) = 0 := by split <;> simp
    rcases hb with e | e
    · rw [e]
      have e2 : (List.replicate (1 : Int).toNat [PyData.int (r / m)]).flatten ++ List.map PyData.int g = ((r / m) :: g).map PyData.int := rfl
      refine ⟨hd, by omega, by decide, by decide, by rw [hsz]; decide, by show ([PyData.int (r / m)]).length + _ ≤ _; simp; omega, ?_⟩
      rw [e2]
      simp (config := {maxSteps := 2000000}) only [↓wpS, ↓wp1, ↓wpV, ↓wpO, ↓wpT, ↓wpL, ↓wpA, ↓wpI, ↓wpTg_name, ↓andThen, ↓rdVar, ↓argVar, ↓mvVar, ↓callW, qg0, qb0, Option.map_some, Option.map_none, view_tmp, view_var, tree_tmp, tree_var, lst_tmp, lst_var, tup_tmp, tup_var, toD_sh, toD_shs, toD_shsT, toD_lnil, shs_nil', lstOf_shL, lstOf_lst, tupOf_shT, tupOf_tup, lstOf_int, tupOf_int, lstOf_tupD, tupOf_lstD, lstOf_tup, tupOf_lst, lstOf_str, tupOf_str, shs_map, shs_cons, List.set_cons_succ, List.set_cons_zero, List.getElem?_cons_zero, List.getElem?_cons_succ, Option.join_some, Option.bind_some, Option.bind_none, Option.some.injEq, Prod.mk.injEq, T.sh.injEq, T.lst.injEq, T.tup.injEq, T.dct.injEq, PyData.int.injEq, PyData.str.injEq, PyData.bool.injEq, PyData.list.injEq, PyData.tuple.injEq, List.cons.injEq, exists_eq_left', exists_eq_left, exists_and_left, exists_and_right, exists_eq', exists_eq, exists_const, and_assoc, true_and, and_true, false_and, and_false, or_false, false_or, exists_false, true_implies, false_implies, implies_true, forall_eq', forall_eq, decide_eq_true_eq, decide_eq_false_iff_not, Bool.not_eq_true', Bool.not_eq_false', Bool.not_eq_true, Bool.not_eq_false, decide_true, decide_false, Bool.not_true, Bool.not_false, Bool.false_eq_true, Bool.true_eq_false, reduceCtorEq, CmpO, cmpX_eqI, cmpX_neI, cmpX_lt, cmpX_le, cmpX_gt, cmpX_ge, cmpX_eqS, cmpX_neS, cmpX_isN, cmpX_notN, cmpX_isB, PlusO, IntO, TimesO, turn_nx, turn_ct, turn_bk, turn_rt, wipeR, eq_self, not_true_eq_false, not_false_eq_true, ite_true, ite_false, if_true, if_false, ne_eq, qd0, List.map_cons, List.map_nil, List.length_cons, List.length_nil, List.replicate_succ, List.replicate_zero, List.cons_append, List.nil_append, Nat.reduceAdd, Nat.reduceSub, Nat.reduceMul, endW_rt, endW_nx, finR, isSh, IxO, seqT_shL, seqT_shT, seqT_lst, seqT_tup, atI_map, atI_c0, atI_c1, atI_c2, CE.plainC, Option.map_eq_some_iff, lenT_shL, lenT_shT, lenT_lst, lenT_tup, lenT_str, lenT_scr, lstOf_scr, tupOf_scr, T.scr.injEq, toD_scr, List.length_map, intD_int, intD_bool, max2_int, min2_int, truO_bool, truO_int, truO_list, truO_tuple, truO_none, isNone_int, isNone_none, isNone_list, isNone_tuple, isNone_str, isNone_bool, map_int_inj, qf0, qh0, SlO, Op2.C, Op2.g, Int.reduceToNat, Bk1.D, Bk2.D, atom_int, atom_bool, atom_none, atom_str, ↓uRepr_wp, ↓uRepr_pl, ↓uList_wp, ↓uList_pl, ↓uTuple_wp, ↓uTuple_pl, ↓uSorted_wp, ↓uSorted_pl, ↓uAbs_wp, ↓uAbs_pl, ↓uRev_wp, ↓uRev_pl, ↓uIsSeq_wp, ↓uIsSeq_pl, ↓bTo_wp, ↓bTo_pre, ↓bFrom_wp, ↓bFrom_pre, ↓iZip_wp, ↓bCount_wp, ↓bCount_pre, ↓bIndex_wp, ↓bIndex_pre, ↓bDivmod_wp, ↓bDivmod_pre, ↓iRange2_wp, ↓iRange3_wp, ↓bGetD_pre, ↓uListRange_wp, ↓uListRange_pl, ↓bListRange_wp, ↓bListRange_pre, ↓sRaise_wp, ↓nDict0_wp, ↓nDict0_pl, ↓iZipS_wp, ↓iZip3_wp, ↓iEnumL_wp, ↓uSumT_wp, ↓uSumT_pl, ↓tListStar_wp, ↓tListStar_pre, ↓uLen_wp, ↓uLen_pl, ↓uIsInt_wp, ↓uIsInt_pl, ↓uIsBool_wp, ↓uIsBool_pl, ↓uIsStr_wp, ↓uIsStr_pl, ↓uIsList_wp, ↓uIsList_pl, ↓uIsTuple_wp, ↓uIsTuple_pl, ↓bGetD_wp, uSumS_wp, uSumS_pl, kLawDraw5R]
      refine ⟨by omega, ?_⟩
      refine hfin ((r / m) :: g) (by simp; omega) fun x hx => ?_
      rcases List.mem_cons.mp hx with rfl | hx
      · exact Int.ediv_nonneg r0 (by omega)
      · exact g3 x hx
    · rw [e]
      have e2 : (List.replicate (0 : Int).toNat [PyData.int (r / m)]).flatten ++ List.map PyData.int g = g.map PyData.int := rfl
      refine ⟨hd, by omega, by decide, by decide, by omega, by show 0 + _ ≤ _; omega, ?_⟩
      rw [e2]
      simp (config := {maxSteps := 2000000}) only [↓wpS, ↓wp1, ↓wpV, ↓wpO, ↓wpT, ↓wpL, ↓wpA, ↓wpI, ↓wpTg_name, ↓andThen, ↓rdVar, ↓argVar, ↓mvVar, ↓callW, qg0, qb0, Option.map_some, Option.map_none, view_tmp, view_var, tree_tmp, tree_var, lst_tmp, lst_var, tup_tmp, tup_var, toD_sh, toD_shs, toD_shsT, toD_lnil, shs_nil', lstOf_shL, lstOf_lst, tupOf_shT, tupOf_tup, lstOf_int, tupOf_int, lstOf_tupD, tupOf_lstD, lstOf_tup, tupOf_lst, lstOf_str, tupOf_str, shs_map, shs_cons, List.set_cons_succ, List.set_cons_zero, List.getElem?_cons_zero, List.getElem?_cons_succ, Option.join_some, Option.bind_some, Option.bind_none, Option.some.injEq, Prod.mk.injEq, T.sh.injEq, T.lst.injEq, T.tup.injEq, T.dct.injEq, PyData.int.injEq, PyData.str.injEq, PyData.bool.injEq, PyData.list.injEq, PyData.tuple.injEq, List.cons.injEq, exists_eq_left', exists_eq_left, exists_and_left, exists_and_right, exists_eq', exists_eq, exists_const, and_assoc, true_and, and_true, false_and, and_false, or_false, false_or, exists_false, true_implies, false_implies, implies_true, forall_eq', forall_eq, decide_eq_true_eq, decide_eq_false_iff_not, Bool.not_eq_true', Bool.not_eq_false', Bool.not_eq_true, Bool.not_eq_false, decide_true, decide_false, Bool.not_true, Bool.not_false, Bool.false_eq_true, Bool.true_eq_false, reduceCtorEq, CmpO, cmpX_eqI, cmpX_neI, cmpX_lt, cmpX_le, cmpX_gt, cmpX_ge, cmpX_eqS, cmpX_neS, cmpX_isN, cmpX_notN, cmpX_isB, PlusO, IntO, TimesO, turn_nx, turn_ct, turn_bk, turn_rt, wipeR, eq_self, not_true_eq_false, not_false_eq_true, ite_true, ite_false, if_true, if_false, ne_eq, qd0, List.map_cons, List.map_nil, List.length_cons, List.length_nil, List.replicate_succ, List.replicate_zero, List.cons_append, List.nil_append, Nat.reduceAdd, Nat.reduceSub, Nat.reduceMul, endW_rt, endW_nx, finR, isSh, IxO, seqT_shL, seqT_shT, seqT_lst, seqT_tup, atI_map, atI_c0, atI_c1, atI_c2, CE.plainC, Option.map_eq_some_iff, lenT_shL, lenT_shT, lenT_lst, lenT_tup, lenT_str, lenT_scr, lstOf_scr, tupOf_scr, T.scr.injEq, toD_scr, List.length_map, intD_int, intD_bool, max2_int, min2_int, truO_bool, truO_int, truO_list, truO_tuple, truO_none, isNone_int, isNone_none, isNone_list, isNone_tuple, isNone_str, isNone_bool, map_int_inj, qf0, qh0, SlO, Op2.C, Op2.g, Int.reduceToNat, Bk1.D, Bk2.D, atom_int, atom_bool, atom_none, atom_str, ↓uRepr_wp, ↓uRepr_pl, ↓uList_wp, ↓uList_pl, ↓uTuple_wp, ↓uTuple_pl, ↓uSorted_wp, ↓uSorted_pl, ↓uAbs_wp, ↓uAbs_pl, ↓uRev_wp, ↓uRev_pl, ↓uIsSeq_wp, ↓uIsSeq_pl, ↓bTo_wp, ↓bTo_pre, ↓bFrom_wp, ↓bFrom_pre, ↓iZip_wp, ↓bCount_wp, ↓bCount_pre, ↓bIndex_wp, ↓bIndex_pre, ↓bDivmod_wp, ↓bDivmod_pre, ↓iRange2_wp, ↓iRange3_wp, ↓bGetD_pre, ↓uListRange_wp, ↓uListRange_pl, ↓bListRange_wp, ↓bListRange_pre, ↓sRaise_wp, ↓nDict0_wp, ↓nDict0_pl, ↓iZipS_wp, ↓iZip3_wp, ↓iEnumL_wp, ↓uSumT_wp, ↓uSumT_pl, ↓tListStar_wp, ↓tListStar_pre, ↓uLen_wp, ↓uLen_pl, ↓uIsInt_wp, ↓uIsInt_pl, ↓uIsBool_wp, ↓uIsBool_pl, ↓uIsStr_wp, ↓uIsStr_pl, ↓uIsList_wp, ↓uIsList_pl, ↓uIsTuple_wp, ↓uIsTuple_pl, ↓bGetD_wp, uSumS_wp, uSumS_pl, kLawDraw5R]
      exact ⟨by omega, hfin g (by omega) g3⟩
  · simp (config := {maxSteps := 2000000}) only [↓wpS, ↓wp1, ↓wpV, ↓wpO, ↓wpT, ↓wpL, ↓wpA, ↓wpI, ↓wpTg_name, ↓andThen, ↓rdVar, ↓argVar, ↓mvVar, ↓callW, qg0, qb0, Option.map_some, Option.map_none, view_tmp, view_var, tree_tmp, tree_var, lst_tmp, lst_var, tup_tmp, tup_var, toD_sh, toD_shs, toD_shsT, toD_lnil, shs_nil', lstOf_shL, lstOf_lst, tupOf_shT, tupOf_tup, lstOf_int, tupOf_int, lstOf_tupD, tupOf_lstD, lstOf_tup, tupOf_lst, lstOf_str, tupOf_str, shs_map, shs_cons, List.set_cons_succ, List.set_cons_zero, List.getElem?_cons_zero, List.getElem?_cons_succ, Option.join_some, Option.bind_some, Option.bind_none, Option.some.injEq, Prod.mk.injEq, T.sh.injEq, T.lst.injEq, T.tup.injEq, T.dct.injEq, PyData.int.injEq, PyData.str.injEq, PyData.bool.injEq, PyData.list.injEq, PyData.tuple.injEq, List.cons.injEq, exists_eq_left', exists_eq_left, exists_and_left, exists_and_right, exists_eq', exists_eq, exists_const, and_assoc, true_and, and_true, false_and, and_false, or_false, false_or, exists_false, true_implies, false_implies, implies_true, forall_eq', forall_eq, decide_eq_true_eq, decide_eq_false_iff_not, Bool.not_eq_true', Bool.not_eq_false', Bool.not_eq_true, Bool.not_eq_false, decide_true, decide_false, Bool.not_true, Bool.not_false, Bool.false_eq_true, Bool.true_eq_false, reduceCtorEq, CmpO, cmpX_eqI, cmpX_neI, cmpX_lt, cmpX_le, cmpX_gt, cmpX_ge, cmpX_eqS, cmpX_neS, cmpX_isN, cmpX_notN, cmpX_isB, PlusO, IntO, TimesO, turn_nx, turn_ct, turn_bk, turn_rt, wipeR, eq_self, not_true_eq_false, not_false_eq_true, ite_true, ite_false, if_true, if_false, ne_eq, qd0, List.map_cons, List.map_nil, List.length_cons, List.length_nil, List.replicate_succ, List.replicate_zero, List.cons_append, List.nil_append, Nat.reduceAdd, Nat.reduceSub, Nat.reduceMul, endW_rt, endW_nx, finR, isSh, IxO, seqT_shL, seqT_shT, seqT_lst, seqT_tup, atI_map, atI_c0, atI_c1, atI_c2, CE.plainC, Option.map_eq_some_iff, lenT_shL, lenT_shT, lenT_lst, lenT_tup, lenT_str, lenT_scr, lstOf_scr, tupOf_scr, T.scr.injEq, toD_scr, List.length_map, intD_int, intD_bool, max2_int, min2_int, truO_bool, truO_int, truO_list, truO_tuple, truO_none, isNone_int, isNone_none, isNone_list, isNone_tuple, isNone_str, isNone_bool, map_int_inj, qf0, qh0, SlO, Op2.C, Op2.g, Int.reduceToNat, Bk1.D, Bk2.D, atom_int, atom_bool, atom_none, atom_str, ↓uRepr_wp, ↓uRepr_pl, ↓uList_wp, ↓uList_pl, ↓uTuple_wp, ↓uTuple_pl, ↓uSorted_wp, ↓uSorted_pl, ↓uAbs_wp, ↓uAbs_pl, ↓uRev_wp, ↓uRev_pl, ↓uIsSeq_wp, ↓uIsSeq_pl, ↓bTo_wp, ↓bTo_pre, ↓bFrom_wp, ↓bFrom_pre, ↓iZip_wp, ↓bCount_wp, ↓bCount_pre, ↓bIndex_wp, ↓bIndex_pre, ↓bDivmod_wp, ↓bDivmod_pre, ↓iRange2_wp, ↓iRange3_wp, ↓bGetD_pre, ↓uListRange_wp, ↓uListRange_pl, ↓bListRange_wp, ↓bListRange_pre, ↓sRaise_wp, ↓nDict0_wp, ↓nDict0_pl, ↓iZipS_wp, ↓iZip3_wp, ↓iEnumL_wp, ↓uSumT_wp, ↓uSumT_pl, ↓tListStar_wp, ↓tListStar_pre, ↓uLen_wp, ↓uLen_pl, ↓uIsInt_wp, ↓uIsInt_pl, ↓uIsBool_wp, ↓uIsBool_pl, ↓uIsStr_wp, ↓uIsStr_pl, ↓uIsList_wp, ↓uIsList_pl, ↓uIsTuple_wp, ↓uIsTuple_pl, ↓bGetD_wp, uSumS_wp, uSumS_pl, iL, kLawDraw4R, hi2, atI_c3]
    simp (config := {maxSteps := 2000000}) only [↓wpS, ↓wp1, ↓wpV, ↓wpO, ↓wpT, ↓wpL, ↓wpA, ↓wpI, ↓wpTg_name, ↓andThen, ↓rdVar, ↓argVar, ↓mvVar, ↓callW, qg0, qb0, Option.map_some, Option.map_none, view_tmp, view_var, tree_tmp, tree_var, lst_tmp, lst_var, tup_tmp, tup_var, toD_sh, toD_shs, toD_shsT, toD_lnil, shs_nil', lstOf_shL, lstOf_lst, tupOf_shT, tupOf_tup, lstOf_int, tupOf_int, lstOf_tupD, tupOf_lstD, lstOf_tup, tupOf_lst, lstOf_str, tupOf_str, shs_map, shs_cons, List.set_cons_succ, List.set_cons_zero, List.getElem?_cons_zero, List.getElem?_cons_succ, Option.join_some, Option.bind_some, Option.bind_none, Option.some.injEq, Prod.mk.injEq, T.sh.injEq, T.lst.injEq, T.tup.injEq, T.dct.injEq, PyData.int.injEq, PyData.str.injEq, PyData.bool.injEq, PyData.list.injEq, PyData.tuple.injEq, List.cons.injEq, exists_eq_left', exists_eq_left, exists_and_left, exists_and_right, exists_eq', exists_eq, exists_const, and_assoc, true_and, and_true, false_and, and_false, or_false, false_or, exists_false, true_implies, false_implies, implies_true, forall_eq', forall_eq, decide_eq_true_eq, decide_eq_false_iff_not, Bool.not_eq_true', Bool.not_eq_false', Bool.not_eq_true, Bool.not_eq_false, decide_true, decide_false, Bool.not_true, Bool.not_false, Bool.false_eq_true, Bool.true_eq_false, reduceCtorEq, CmpO, cmpX_eqI, cmpX_neI, cmpX_lt, cmpX_le, cmpX_gt, cmpX_ge, cmpX_eqS, cmpX_neS, cmpX_isN, cmpX_notN, cmpX_isB, PlusO, IntO, TimesO, turn_nx, turn_ct, turn_bk, turn_rt, wipeR, eq_self, not_true_eq_false, not_false_eq_true, ite_true, ite_false, if_true, if_false, ne_eq, qd0, List.map_cons, List.map_nil, List.length_cons, List.length_nil, List.replicate_succ, List.replicate_zero, List.cons_append, List.nil_append, Nat.reduceAdd, Nat.reduceSub, Nat.reduceMul, endW_rt, endW_nx, finR, isSh, IxO, seqT_shL, seqT_shT, seqT_lst, seqT_tup, atI_map, atI_c0, atI_c1, atI_c2, CE.plainC, Option.map_eq_some_iff, lenT_shL, lenT_shT, lenT_lst, lenT_tup, lenT_str, lenT_scr, lstOf_scr, tupOf_scr, T.scr.injEq, toD_scr, List.length_map, intD_int, intD_bool, max2_int, min2_int, truO_bool, truO_int, truO_list, truO_tuple, truO_none, isNone_int, isNone_none, isNone_list, isNone_tuple, isNone_str, isNone_bool, map_int_inj, qf0, qh0, SlO, Op2.C, Op2.g, Int.reduceToNat, Bk1.D, Bk2.D, atom_int, atom_bool, atom_none, atom_str, ↓uRepr_wp, ↓uRepr_pl, ↓uList_wp, ↓uList_pl, ↓uTuple_wp, ↓uTuple_pl, ↓uSorted_wp, ↓uSorted_pl, ↓uAbs_wp, ↓uAbs_pl, ↓uRev_wp, ↓uRev_pl, ↓uIsSeq_wp, ↓uIsSeq_pl, ↓bTo_wp, ↓bTo_pre, ↓bFrom_wp, ↓bFrom_pre, ↓iZip_wp, ↓bCount_wp, ↓bCount_pre, ↓bIndex_wp, ↓bIndex_pre, ↓bDivmod_wp, ↓bDivmod_pre, ↓iRange2_wp, ↓iRange3_wp, ↓bGetD_pre, ↓uListRange_wp, ↓uListRange_pl, ↓bListRange_wp, ↓bListRange_pre, ↓sRaise_wp, ↓nDict0_wp, ↓nDict0_pl, ↓iZipS_wp, ↓iZip3_wp, ↓iEnumL_wp, ↓uSumT_wp, ↓uSumT_pl, ↓tListStar_wp, ↓tListStar_pre, ↓uLen_wp, ↓uLen_pl, ↓uIsInt_wp, ↓uIsInt_pl, ↓uIsBool_wp, ↓uIsBool_pl, ↓uIsStr_wp, ↓uIsStr_pl, ↓uIsList_wp, ↓uIsList_pl, ↓uIsTuple_wp, ↓uIsTuple_pl, ↓bGetD_wp, uSumS_wp, uSumS_pl, iL, kLawDraw3R, atI_c3]
    obtain ⟨y, hy, hym⟩ : ∃ y, atI dg ((c + 1) % (dg.length : Int)) = some y ∧ y ∈ dg := by
      rw [atI_pos hmod]
      have : ((c + 1) % (dg.length : Int)).toNat < dg.length := by omega
      exact ⟨_, List.getElem?_eq_getElem this, List.getElem_mem this⟩
    have hy2 := d3 y hym
    have m2 : CMulO (y + 17) 27644437 := .inr (.inr ⟨by decide, by decide⟩)
    have m3 : CMulO (c + 1) 999959 := .inr (.inr ⟨by decide, by decide⟩)
    have ml := stir_mul s0 s1
    refine ⟨by omega, _, ⟨_, ⟨y, hy, rfl⟩, rfl⟩, ?_⟩
    simp (config := {maxSteps := 2000000}) only [↓wpS, ↓wp1, ↓wpV, ↓wpO, ↓wpT, ↓wpL, ↓wpA, ↓wpI, ↓wpTg_name, ↓andThen, ↓rdVar, ↓argVar, ↓mvVar, ↓callW, qg0, qb0, Option.map_some, Option.map_none, view_tmp, view_var, tree_tmp, tree_var, lst_tmp, lst_var, tup_tmp, tup_var, toD_sh, toD_shs, toD_shsT, toD_lnil, shs_nil', lstOf_shL, lstOf_lst, tupOf_shT, tupOf_tup, lstOf_int, tupOf_int, lstOf_tupD, tupOf_lstD, lstOf_tup, tupOf_lst, lstOf_str, tupOf_str, shs_map, shs_cons, List.set_cons_succ, List.set_cons_zero, List.getElem?_cons_zero, List.getElem?_cons_succ, Option.join_some, Option.bind_some, Option.bind_none, Option.some.injEq, Prod.mk.injEq, T.sh.injEq, T.lst.injEq, T.tup.injEq, T.dct.injEq, PyData.int.injEq, PyData.str.injEq, PyData.bool.injEq, PyData.list.injEq, PyData.tuple.injEq, List.cons.injEq, exists_eq_left', exists_eq_left, exists_and_left, exists_and_right, exists_eq', exists_eq, exists_const, and_assoc, true_and, and_true, false_and, and_false, or_false, false_or, exists_false, true_implies, false_implies, implies_true, forall_eq', forall_eq, decide_eq_true_eq, decide_eq_false_iff_not, Bool.not_eq_true', Bool.not_eq_false', Bool.not_eq_true, Bool.not_eq_false, decide_true, decide_false, Bool.not_true, Bool.not_false, Bool.false_eq_true, Bool.true_eq_false, reduceCtorEq, CmpO, cmpX_eqI, cmpX_neI, cmpX_lt, cmpX_le, cmpX_gt, cmpX_ge, cmpX_eqS, cmpX_neS, cmpX_isN, cmpX_notN, cmpX_isB, PlusO, IntO, TimesO, turn_nx, turn_ct, turn_bk, turn_rt, wipeR, eq_self, not_true_eq_false, not_false_eq_true, ite_true, ite_false, if_true, if_false, ne_eq, qd0, List.map_cons, List.map_nil, List.length_cons, List.length_nil, List.cons_append, List.nil_append, Nat.reduceAdd, Nat.reduceSub, Nat.reduceMul, endW_rt, endW_nx, finR, isSh, IxO, seqT_shL, seqT_shT, seqT_lst, seqT_tup, atI_map, atI_c0, atI_c1, atI_c2, CE.plainC, Option.map_eq_some_iff, lenT_shL, lenT_shT, lenT_lst, lenT_tup, lenT_str, lenT_scr, lstOf_scr, tupOf_scr, T.scr.injEq, toD_scr, List.length_map, intD_int, intD_bool, max2_int, min2_int, truO_bool, truO_int, truO_list, truO_tuple, truO_none, isNone_int, isNone_none, isNone_list, isNone_tuple, isNone_str, isNone_bool, map_int_inj, qf0, qh0, SlO, Op2.C, Op2.g, Int.reduceToNat, Bk1.D, Bk2.D, atom_int, atom_bool, atom_none, atom_str, ↓uRepr_wp, ↓uRepr_pl, ↓uList_wp, ↓uList_pl, ↓uTuple_wp, ↓uTuple_pl, ↓uSorted_wp, ↓uSorted_pl, ↓uAbs_wp, ↓uAbs_pl, ↓uRev_wp, ↓uRev_pl, ↓uIsSeq_wp, ↓uIsSeq_pl, ↓bTo_wp, ↓bTo_pre, ↓bFrom_wp, ↓bFrom_pre, ↓iZip_wp, ↓bCount_wp, ↓bCount_pre, ↓bIndex_wp, ↓bIndex_pre, ↓bDivmod_wp, ↓bDivmod_pre, ↓iRange2_wp, ↓iRange3_wp, ↓bGetD_pre, ↓uListRange_wp, ↓uListRange_pl, ↓bListRange_wp, ↓bListRange_pre, ↓sRaise_wp, ↓nDict0_wp, ↓nDict0_pl, ↓iZipS_wp, ↓iZip3_wp, ↓iEnumL_wp, ↓uSumT_wp, ↓uSumT_pl, ↓tListStar_wp, ↓tListStar_pre, ↓uLen_wp, ↓uLen_pl, ↓uIsInt_wp, ↓uIsInt_pl, ↓uIsBool_wp, ↓uIsBool_pl, ↓uIsStr_wp, ↓uIsStr_pl, ↓uIsList_wp, ↓uIsList_pl, ↓uIsTuple_wp, ↓uIsTuple_pl, ↓bGetD_wp, uSumS_wp, uSumS_pl, iL, kLawDraw2R, atI_c3]
    refine ⟨ml, m2, m3, ?_⟩
    simp (config := {maxSteps := 2000000}) only [↓wpS, ↓wp1, ↓wpV, ↓wpO, ↓wpT, ↓wpL, ↓wpA, ↓wpI, ↓wpTg_name, ↓andThen, ↓rdVar, ↓argVar, ↓mvVar, ↓callW, qg0, qb0, Option.map_some, Option.map_none, view_tmp, view_var, tree_tmp, tree_var, lst_tmp, lst_var, tup_tmp, tup_var, toD_sh, toD_shs, toD_shsT, toD_lnil, shs_nil', lstOf_shL, lstOf_lst, tupOf_shT, tupOf_tup, lstOf_int, tupOf_int, lstOf_tupD, tupOf_lstD, lstOf_tup, tupOf_lst, lstOf_str, tupOf_str, shs_map, shs_cons, List.set_cons_succ, List.set_cons_zero, List.getElem?_cons_zero, List.getElem?_cons_succ, Option.join_some, Option.bind_some, Option.bind_none, Option.some.injEq, Prod.mk.injEq, T.sh.injEq, T.lst.injEq, T.tup.injEq, T.dct.injEq, PyData.int.injEq, PyData.str.injEq, PyData.bool.injEq, PyData.list.injEq, PyData.tuple.injEq, List.cons.injEq, exists_eq_left', exists_eq_left, exists_and_left, exists_and_right, exists_eq', exists_eq, exists_const, and_assoc, true_and, and_true, false_and, and_false, or_false, false_or, exists_false, true_implies, false_implies, implies_true, forall_eq', forall_eq, decide_eq_true_eq, decide_eq_false_iff_not, Bool.not_eq_true', Bool.not_eq_false', Bool.not_eq_true, Bool.not_eq_false, decide_true, decide_false, Bool.not_true, Bool.not_false, Bool.false_eq_true, Bool.true_eq_false, reduceCtorEq, CmpO, cmpX_eqI, cmpX_neI, cmpX_lt, cmpX_le, cmpX_gt, cmpX_ge, cmpX_eqS, cmpX_neS, cmpX_isN, cmpX_notN, cmpX_isB, PlusO, IntO, TimesO, turn_nx, turn_ct, turn_bk, turn_rt, wipeR, eq_self, not_true_eq_false, not_false_eq_true, ite_true, ite_false, if_true, if_false, ne_eq, qd0, List.map_cons, List.map_nil, List.length_cons, List.length_nil, List.replicate_succ, List.replicate_zero, List.cons_append, List.nil_append, Nat.reduceAdd, Nat.reduceSub, Nat.reduceMul, endW_rt, endW_nx, finR, isSh, IxO, seqT_shL, seqT_shT, seqT_lst, seqT_tup, atI_map, atI_c0, atI_c1, atI_c2, CE.plainC, Option.map_eq_some_iff, lenT_shL, lenT_shT, lenT_lst, lenT_tup, lenT_str, lenT_scr, lstOf_scr, tupOf_scr, T.scr.injEq, toD_scr, List.length_map, intD_int, intD_bool, max2_int, min2_int, truO_bool, truO_int, truO_list, truO_tuple, truO_none, isNone_int, isNone_none, isNone_list, isNone_tuple, isNone_str, isNone_bool, map_int_inj, qf0, qh0, SlO, Op2.C, Op2.g, Int.reduceToNat, Bk1.D, Bk2.D, atom_int, atom_bool, atom_none, atom_str, ↓uRepr_wp, ↓uRepr_pl, ↓uList_wp, ↓uList_pl, ↓uTuple_wp, ↓uTuple_pl, ↓uSorted_wp, ↓uSorted_pl, ↓uAbs_wp, ↓uAbs_pl, ↓uRev_wp, ↓uRev_pl, ↓uIsSeq_wp, ↓uIsSeq_pl, ↓bTo_wp, ↓bTo_pre, ↓bFrom_wp, ↓bFrom_pre, ↓iZip_wp, ↓bCount_wp, ↓bCount_pre, ↓bIndex_wp, ↓bIndex_pre, ↓bDivmod_wp, ↓bDivmod_pre, ↓iRange2_wp, ↓iRange3_wp, ↓bGetD_pre, ↓uListRange_wp, ↓uListRange_pl, ↓bListRange_wp, ↓bListRange_pre, ↓sRaise_wp, ↓nDict0_wp, ↓nDict0_pl, ↓iZipS_wp, ↓iZip3_wp, ↓iEnumL_wp, ↓uSumT_wp, ↓uSumT_pl, ↓tListStar_wp, ↓tListStar_pre, ↓uLen_wp, ↓uLen_pl, ↓uIsInt_wp, ↓uIsInt_pl, ↓uIsBool_wp, ↓uIsBool_pl, ↓uIsStr_wp, ↓uIsStr_pl, ↓uIsList_wp, ↓uIsList_pl, ↓uIsTuple_wp, ↓uIsTuple_pl, ↓bGetD_wp, uSumS_wp, uSumS_pl, iL, kLawDraw1R, hi3]
    refine ⟨hcp2, hcp3, hm3, by decide, ?_⟩
    have hst := stir_mod (s * s + (y + 17) * 27644437 + (c + 1) * 999959)
    generalize (s * s + (y + 17) * 27644437 + (c + 1) * 999959) % (2 ^ 64 * 2 ^ 63 - 1) = st at *
    simp (config := {maxSteps := 2000000}) only [↓wpS, ↓wp1, ↓wpV, ↓wpO, ↓wpT, ↓wpL, ↓wpA, ↓wpI, ↓wpTg_name, ↓andThen, ↓rdVar, ↓argVar, ↓mvVar, ↓callW, qg0, qb0, Option.map_some, Option.map_none, view_tmp, view_var, tree_tmp, tree_var, lst_tmp, lst_var, tup_tmp, tup_var, toD_sh, toD_shs, toD_shsT, toD_lnil, shs_nil', lstOf_shL, lstOf_lst, tupOf_shT, tupOf_tup, lstOf_int, tupOf_int, lstOf_tupD, tupOf_lstD, lstOf_tup, tupOf_lst, lstOf_str, tupOf_str, shs_map, shs_cons, List.set_cons_succ, List.set_cons_zero, List.getElem?_cons_zero, List.getElem?_cons_succ, Option.join_some, Option.bind_some, Option.bind_none, Option.some.injEq, Prod.mk.injEq, T.sh.injEq, T.lst.injEq, T.tup.injEq, T.dct.injEq, PyData.int.injEq, PyData.str.injEq, PyData.bool.injEq, PyData.list.injEq, PyData.tuple.injEq, List.cons.injEq, exists_eq_left', exists_eq_left, exists_and_left, exists_and_right, exists_eq', exists_eq, exists_const, and_assoc, true_and, and_true, false_and, and_false, or_false, false_or, exists_false, true_implies, false_implies, implies_true, forall_eq', forall_eq, decide_eq_true_eq, decide_eq_false_iff_not, Bool.not_eq_true', Bool.not_eq_false', Bool.not_eq_true, Bool.not_eq_false, decide_true, decide_false, Bool.not_true, Bool.not_false, Bool.false_eq_true, Bool.true_eq_false, reduceCtorEq, CmpO, cmpX_eqI, cmpX_neI, cmpX_lt, cmpX_le, cmpX_gt, cmpX_ge, cmpX_eqS, cmpX_neS, cmpX_isN, cmpX_notN, cmpX_isB, PlusO, IntO, TimesO, turn_nx, turn_ct, turn_bk, turn_rt, wipeR, eq_self, not_true_eq_false, not_false_eq_true, ite_true, ite_false, if_true, if_false, ne_eq, qd0, List.map_cons, List.map_nil, List.length_cons, List.length_nil, List.replicate_succ, List.replicate_zero, List.cons_append, List.nil_append, Nat.reduceAdd, Nat.reduceSub, Nat.reduceMul, endW_rt, endW_nx, finR, isSh, IxO, seqT_shL, seqT_shT, seqT_lst, seqT_tup, atI_map, atI_c0, atI_c1, atI_c2, CE.plainC, Option.map_eq_some_iff, lenT_shL, lenT_shT, lenT_lst, lenT_tup, lenT_str, lenT_scr, lstOf_scr, tupOf_scr, T.scr.injEq, toD_scr, List.length_map, intD_int, intD_bool, max2_int, min2_int, truO_bool, truO_int, truO_list, truO_tuple, truO_none, isNone_int, isNone_none, isNone_list, isNone_tuple, isNone_str, isNone_bool, map_int_inj, qf0, qh0, SlO, Op2.C, Op2.g, Int.reduceToNat, Bk1.D, Bk2.D, atom_int, atom_bool, atom_none, atom_str, ↓uRepr_wp, ↓uRepr_pl, ↓uList_wp, ↓uList_pl, ↓uTuple_wp, ↓uTuple_pl, ↓uSorted_wp, ↓uSorted_pl, ↓uAbs_wp, ↓uAbs_pl, ↓uRev_wp, ↓uRev_pl, ↓uIsSeq_wp, ↓uIsSeq_pl, ↓bTo_wp, ↓bTo_pre, ↓bFrom_wp, ↓bFrom_pre, ↓iZip_wp, ↓bCount_wp, ↓bCount_pre, ↓bIndex_wp, ↓bIndex_pre, ↓bDivmod_wp, ↓bDivmod_pre, ↓iRange2_wp, ↓iRange3_wp, ↓bGetD_pre, ↓uListRange_wp, ↓uListRange_pl, ↓bListRange_wp, ↓bListRange_pre, ↓sRaise_wp, ↓nDict0_wp, ↓nDict0_pl, ↓iZipS_wp, ↓iZip3_wp, ↓iEnumL_wp, ↓uSumT_wp, ↓uSumT_pl, ↓tListStar_wp, ↓tListStar_pre, ↓uLen_wp, ↓uLen_pl, ↓uIsInt_wp, ↓uIsInt_pl, ↓uIsBool_wp, ↓uIsBool_pl, ↓uIsStr_wp, ↓uIsStr_pl, ↓uIsList_wp, ↓uIsList_pl, ↓uIsTuple_wp, ↓uIsTuple_pl, ↓bGetD_wp, uSumS_wp, uSumS_pl, iL, kLawDraw0R, atI_c3]
    have hd : CDivW st (2 ^ 41) := cdivw (by decide) (by decide)
    refine ⟨hcp5, hd, by omega, ?_⟩
    exact hq _ g dg (c + 1) st ⟨⟨g1, g2⟩, ⟨d1, d2, d3⟩, by show 0 ≤ c + 1; omega, hst.1, hst.2⟩ (Int.emod_nonneg _ (by omega)) (Int.emod_lt_of_pos _ (by omega))
theorem wDrawR_at (p : Rl) (m : Int) (Q : T → List T → Prop) (E : Value → XF → List T → Prop) : wDrawR [.lst (rlL p), .sh (.int m)] Q E = (RlOk p ∧ (1 ≤ m ∧ m ≤ 10 ^ 40) ∧ ∀ v p', RlOk p' → 0 ≤ v → v < m → Q (.sh (.int v)) [.lst (rlL p'), .sh (.int m)]) := by
  refine propext ⟨fun ⟨p1, m1, e, h⟩ => ?_, fun h => ⟨p, m, rfl, h⟩⟩
  simp only [List.cons.injEq, T.lst.injEq, T.sh.injEq, PyData.int.injEq, and_true] at e
  obtain ⟨e1, rfl⟩ := e
  obtain rfl := rlL_inj e1
  exact h
end Oak
namespace Oak
open PySem PySem.Spec PyProof.Rows L2
open Tee (CmpD tyName zipD)
def kLawDressed0R : CSs := (.cons (.ret (.frz (.ife (.cmp .Eq (.call "_law_draw" (.cons (.var 0) (.cons (.int 2) .nil))) (.int 0)) (.var 3) (.un uTuple (.var 3))))) .nil)
def eLawDressed1R : CE := (.call "_law_dressed" (.cons (.var 0) (.cons (.var 2) .nil)))
def irLawDressedR : CSs := (.cons (.ife (.not (.un uIsSeq (.var 1))) (.cons (.ret (.var 1)) .nil) .nil) (.cons (.setLc 3 eLawDressed1R (.name 2) (.seq (.var 1)) [("part", 2)]) kLawDressed0R))
def kLawRecord0R : CSs := (.cons (.ret (.var 3)) .nil)
def lLawRecord1R : CSs := (.cons (.set 5 (.op .sub (.call "_law_draw" (.cons (.var 0) (.cons (.int 3) .nil))) (.int 1))) (.cons (.ife (.or (.cmp .Eq (.var 3) (.list .nil)) (.cmp .NotEq (.ix (.ix (.var 3) (.neg (.int 1))) (.int 0)) (.var 5))) (.cons (.app 3 (.frz (.tup (.cons (.var 5) (.cons (.plus (.int 1) (.call "_law_draw" (.cons (.var 0) (.cons (.var 2) .nil)))) .nil))))) .nil) .nil) .nil))
def irLawRecordR : CSs := (.cons (.set 3 (.list .nil)) (.cons (.loop (.name 4) (.range (.call "_law_draw" (.cons (.var 0) (.cons (.plus (.var 1) (.int 1)) .nil)))) lLawRecord1R) kLawRecord0R))
def wDressedR (n : Nat) : Wp := fun as Q _ => ∃ p d, as = [.lst (rlL p), .sh d] ∧ RlOk p ∧ dOk n d = true ∧ ∀ p' r, RlOk p' → Dr n d r → Q (.sh r) [.lst (rlL p'), .sh d]
theorem vcDressedR (n : Nat) (Γ : Gam) (h1 : ∀ m, n = m + 1 → Γ.fn "_law_dressed" = some (wDressedR m)) (h2 : Γ.fn "_law_draw" = some wDrawR) (as : List T) (Q : T → List T → Prop) (E : Value → XF → List T → Prop) (h : wDressedR n as Q E) : wpS Γ irLawDressedR (qd0 ["reel", "value", "part", "parts"] as) (endW as Q) := by
  obtain ⟨p, d, rfl, hp, hd, q⟩ := h
  cases e : seqB d with
  | none =>
    have hr : Dr n d d := by
      cases n with
      | zero => rfl
      | succ m => unfold Dr; rw [e]
    have q := q p d hp hr
    cases d <;> first | (cases e; done) | (simp (config := {maxSteps := 2000000}) only [↓wpS, ↓wp1, ↓wpV, ↓wpO, ↓wpT, ↓wpL, ↓wpA, ↓wpI, ↓wpTg_name, ↓andThen, ↓rdVar, ↓argVar, ↓mvVar, ↓callW, qg0, qb0, Option.map_some, Option.map_none, view_tmp, view_var, tree_tmp, tree_var, lst_tmp, lst_var, tup_tmp, tup_var, toD_sh, toD_shs, toD_shsT, toD_lnil, shs_nil', lstOf_shL, lstOf_lst, tupOf_shT, tupOf_tup, lstOf_int, tupOf_int, lstOf_tupD, tupOf_lstD, lstOf_tup, tupOf_lst, lstOf_str, tupOf_str, shs_map, shs_cons, List.set_cons_succ, List.set_cons_zero, List.getElem?_cons_zero, List.getElem?_cons_succ, Option.join_some, Option.bind_some, Option.bind_none, Option.some.injEq, Prod.mk.injEq, T.sh.injEq, T.lst.injEq, T.tup.injEq, T.dct.injEq, PyData.int.injEq, PyData.str.injEq, PyData.bool.injEq, PyData.list.injEq, PyData.tuple.injEq, List.cons.injEq, exists_eq_left', exists_eq_left, exists_and_left, exists_and_right, exists_eq', exists_eq, exists_const, and_assoc, true_and, and_true, false_and, and_false, or_false, false_or, exists_false, true_implies, false_implies, implies_true, forall_eq', forall_eq, decide_eq_true_eq, decide_eq_false_iff_not, Bool.not_eq_true', Bool.not_eq_false', Bool.not_eq_true, Bool.not_eq_false, decide_true, decide_false, Bool.not_true, Bool.not_false, Bool.false_eq_true, Bool.true_eq_false, reduceCtorEq, CmpO, cmpX_eqI, cmpX_neI, cmpX_lt, cmpX_le, cmpX_gt, cmpX_ge, cmpX_eqS, cmpX_neS, cmpX_isN, cmpX_notN, cmpX_isB, PlusO, IntO, TimesO, turn_nx, turn_ct, turn_bk, turn_rt, wipeR, eq_self, not_true_eq_false, not_false_eq_true, ite_true, ite_false, if_true, if_false, ne_eq, qd0, List.map_cons, List.map_nil, List.length_cons, List.length_nil, List.replicate_succ, List.replicate_zero, List.cons_append, List.nil_append, Nat.reduceAdd, Nat.reduceSub, Nat.reduceMul, endW_rt, endW_nx, finR, isSh, IxO, seqT_shL, seqT_shT, seqT_lst, seqT_tup, atI_map, atI_c0, atI_c1, atI_c2, CE.plainC, Option.map_eq_some_iff, lenT_shL, lenT_shT, lenT_lst, lenT_tup, lenT_str, lenT_scr, lstOf_scr, tupOf_scr, T.scr.injEq, toD_scr, List.length_map, intD_int, intD_bool, max2_int, min2_int, truO_bool, truO_int, truO_list, truO_tuple, truO_none, isNone_int, isNone_none, isNone_list, isNone_tuple, isNone_str, isNone_bool, map_int_inj, qf0, qh0, SlO, Op2.C, Op2.g, Int.reduceToNat, Bk1.D, Bk2.D, atom_int, atom_bool, atom_none, atom_str, ↓uRepr_wp, ↓uRepr_pl, ↓uList_wp, ↓uList_pl, ↓uTuple_wp, ↓uTuple_pl, ↓uSorted_wp, ↓uSorted_pl, ↓uAbs_wp, ↓uAbs_pl, ↓uRev_wp, ↓uRev_pl, ↓uIsSeq_wp, ↓uIsSeq_pl, ↓bTo_wp, ↓bTo_pre, ↓bFrom_wp, ↓bFrom_pre, ↓iZip_wp, ↓bCount_wp, ↓bCount_pre, ↓bIndex_wp, ↓bIndex_pre, ↓bDivmod_wp, ↓bDivmod_pre, ↓iRange2_wp, ↓iRange3_wp, ↓bGetD_pre, ↓uListRange_wp, ↓uListRange_pl, ↓bListRange_wp, ↓bListRange_pre, ↓sRaise_wp, ↓nDict0_wp, ↓nDict0_pl, ↓iZipS_wp, ↓iZip3_wp, ↓iEnumL_wp, ↓uSumT_wp, ↓uSumT_pl, ↓tListStar_wp, ↓tListStar_pre, ↓uLen_wp, ↓uLen_pl, ↓uIsInt_wp, ↓uIsInt_pl, ↓uIsBool_wp, ↓uIsBool_pl, ↓uIsStr_wp, ↓uIsStr_pl, ↓uIsList_wp, ↓uIsList_pl, ↓uIsTuple_wp, ↓uIsTuple_pl, ↓bGetD_wp, uSumS_wp, uSumS_pl, irLawDressedR, kit_list, kit_tuple, Bool.or_false]; exact q)
  | some ds =>
    obtain ⟨m, rfl, hl, ha⟩ : ∃ m, n = m + 1 ∧ ds.length ≤ 1000000 ∧ ds.all (dOk m) = true := by
      cases n with
      | zero => rcases seq_is e with rfl | rfl <;> cases hd
      | succ m =>
        refine ⟨m, rfl, ?_⟩
        rcases seq_is e with rfl | rfl
        · simpa [dOk] using hd
        · simpa [dOk] using hd
    have h1' := h1 m rfl
    have main : goLc (wpTg (.name 2)) (fun ρ k => k true ρ) (fun ρ k => wpV Γ.calm eLawDressed1R ρ k) [2] (fun acc ρ2 => wpS Γ kLawDressed0R (ρ2.set 3 (some (.lst acc))) (endW [.lst (rlL p), .sh d] Q)) ds [] [some (.lst (rlL p)), some (.sh d), none, none] := by
      refine goLc_ind (fun rest acc ρ => ∃ p' ds1 rs, ds = ds1 ++ rest ∧ acc = rs.map .sh ∧ Paired (Dr m) ds1 rs ∧ RlOk p' ∧ ρ = [some (.lst (rlL p')), some (.sh d), none, none])
        (fun x rest acc ρ h K hK => ?_) (fun acc ρ h => ?_) ds [] _ ⟨p, [], [], rfl, rfl, .nil, hp, rfl⟩
      · obtain ⟨p', ds1, rs, eds, rfl, hpr, hp', rfl⟩ := h
        simp (config := {maxSteps := 2000000}) only [↓wpS, ↓wp1, ↓wpV, ↓wpO, ↓wpT, ↓wpL, ↓wpA, ↓wpI, ↓wpTg_name, ↓andThen, ↓rdVar, ↓argVar, ↓mvVar, ↓callW, qg0, qb0, Option.map_some, Option.map_none, view_tmp, view_var, tree_tmp, tree_var, lst_tmp, lst_var, tup_tmp, tup_var, toD_sh, toD_shs, toD_shsT, toD_lnil, shs_nil', lstOf_shL, lstOf_lst, tupOf_shT, tupOf_tup, lstOf_int, tupOf_int, lstOf_tupD, tupOf_lstD, lstOf_tup, tupOf_lst, lstOf_str, tupOf_str, shs_map, shs_cons, List.set_cons_succ, List.set_cons_zero, List.getElem?_cons_zero, List.getElem?_cons_succ, Option.join_some, Option.bind_some, Option.bind_none, Option.some.injEq, Prod.mk.injEq, T.sh.injEq, T.lst.injEq, T.tup.injEq, T.dct.injEq, PyData.int.injEq, PyData.str.injEq, PyData.bool.injEq, PyData.list.injEq, PyData.tuple.injEq, List.cons.injEq, exists_eq_left', exists_eq_left, exists_and_left, exists_and_right, exists_eq', exists_eq, exists_const, and_assoc, true_and, and_true, false_and, and_false, or_false, false_or, exists_false, true_implies, false_implies, implies_true, forall_eq', forall_eq, decide_eq_true_eq, decide_eq_false_iff_not, Bool.not_eq_true', Bool.not_eq_false', Bool.not_eq_true, Bool.not_eq_false, decide_true, decide_false, Bool.not_true, Bool.not_false, Bool.false_eq_true, Bool.true_eq_false, reduceCtorEq, CmpO, cmpX_eqI, cmpX_neI, cmpX_lt, cmpX_le, cmpX_gt, cmpX_ge, cmpX_eqS, cmpX_neS, cmpX_isN, cmpX_notN, cmpX_isB, PlusO, IntO, TimesO, turn_nx, turn_ct, turn_bk, turn_rt, wipeR, eq_self, not_true_eq_false, not_false_eq_true, ite_true, ite_false, if_true, if_false, ne_eq, qd0, List.map_cons, List.map_nil, List.length_cons, List.length_nil, List.replicate_succ, List.replicate_zero, List.cons_append, List.nil_append, Nat.reduceAdd, Nat.reduceSub, Nat.reduceMul, endW_rt, endW_nx, finR, isSh, IxO, seqT_shL, seqT_shT, seqT_lst, seqT_tup, atI_map, atI_c0, atI_c1, atI_c2, CE.plainC, Option.map_eq_some_iff, lenT_shL, lenT_shT, lenT_lst, lenT_tup, lenT_str, lenT_scr, lstOf_scr, tupOf_scr, T.scr.injEq, toD_scr, List.length_map, intD_int, intD_bool, max2_int, min2_int, truO_bool, truO_int, truO_list, truO_tuple, truO_none, isNone_int, isNone_none, isNone_list, isNone_tuple, isNone_str, isNone_bool, map_int_inj, qf0, qh0, SlO, Op2.C, Op2.g, Int.reduceToNat, Bk1.D, Bk2.D, atom_int, atom_bool, atom_none, atom_str, ↓uRepr_wp, ↓uRepr_pl, ↓uList_wp, ↓uList_pl, ↓uTuple_wp, ↓uTuple_pl, ↓uSorted_wp, ↓uSorted_pl, ↓uAbs_wp, ↓uAbs_pl, ↓uRev_wp, ↓uRev_pl, ↓uIsSeq_wp, ↓uIsSeq_pl, ↓bTo_wp, ↓bTo_pre, ↓bFrom_wp, ↓bFrom_pre, ↓iZip_wp, ↓bCount_wp, ↓bCount_pre, ↓bIndex_wp, ↓bIndex_pre, ↓bDivmod_wp, ↓bDivmod_pre, ↓iRange2_wp, ↓iRange3_wp, ↓bGetD_pre, ↓uListRange_wp, ↓uListRange_pl, ↓bListRange_wp, ↓bListRange_pre, ↓sRaise_wp, ↓nDict0_wp, ↓nDict0_pl, ↓iZipS_wp, ↓iZip3_wp, ↓iEnumL_wp, ↓uSumT_wp, ↓uSumT_pl, ↓tListStar_wp, ↓tListStar_pre, ↓uLen_wp, ↓uLen_pl, ↓uIsInt_wp, ↓uIsInt_pl, ↓uIsBool_wp, ↓uIsBool_pl, ↓uIsStr_wp, ↓uIsStr_pl, ↓uIsList_wp, ↓uIsList_pl, ↓uIsTuple_wp, ↓uIsTuple_pl, ↓bGetD_wp, uSumS_wp, uSumS_pl, eLawDressed1R, ↓callL h1', ↓wDressedR]
        refine ⟨p', rfl, hp', List.all_eq_true.mp ha x (by rw [eds]; simp), fun p2 r hp2 hr => ?_⟩
        exact hK _ _ ⟨p2, ds1 ++ [x], rs ++ [r], by rw [eds]; simp, by simp, paired_snoc hpr hr, hp2, rfl⟩
      · obtain ⟨p', ds1, rs, eds, rfl, hpr, hp', rfl⟩ := h
        rw [List.append_nil] at eds
        subst eds
        simp (config := {maxSteps := 2000000}) only [↓wpS, ↓wp1, ↓wpV, ↓wpO, ↓wpT, ↓wpL, ↓wpA, ↓wpI, ↓wpTg_name, ↓andThen, ↓rdVar, ↓argVar, ↓mvVar, ↓callW, qg0, qb0, Option.map_some, Option.map_none, view_tmp, view_var, tree_tmp, tree_var, lst_tmp, lst_var, tup_tmp, tup_var, toD_sh, toD_shs, toD_shsT, toD_lnil, shs_nil', lstOf_shL, lstOf_lst, tupOf_shT, tupOf_tup, lstOf_int, tupOf_int, lstOf_tupD, tupOf_lstD, lstOf_tup, tupOf_lst, lstOf_str, tupOf_str, shs_map, shs_cons, List.set_cons_succ, List.set_cons_zero, List.getElem?_cons_zero, List.getElem?_cons_succ, Option.join_some, Option.bind_some, Option.bind_none, Option.some.injEq, Prod.mk.injEq, T.sh.injEq, T.lst.injEq, T.tup.injEq, T.dct.injEq, PyData.int.injEq, PyData.str.injEq, PyData.bool.injEq, PyData.list.injEq, PyData.tuple.injEq, List.cons.injEq, exists_eq_left', exists_eq_left, exists_and_left, exists_and_right, exists_eq', exists_eq, exists_const, and_assoc, true_and, and_true, false_and, and_false, or_false, false_or, exists_false, true_implies, false_implies, implies_true, forall_eq', forall_eq, decide_eq_true_eq, decide_eq_false_iff_not, Bool.not_eq_true', Bool.not_eq_false', Bool.not_eq_true, Bool.not_eq_false, decide_true, decide_false, Bool.not_true, Bool.not_false, Bool.false_eq_true, Bool.true_eq_false, reduceCtorEq, CmpO, cmpX_eqI, cmpX_neI, cmpX_lt, cmpX_le, cmpX_gt, cmpX_ge, cmpX_eqS, cmpX_neS, cmpX_isN, cmpX_notN, cmpX_isB, PlusO, IntO, TimesO, turn_nx, turn_ct, turn_bk, turn_rt, wipeR, eq_self, not_true_eq_false, not_false_eq_true, ite_true, ite_false, if_true, if_false, ne_eq, qd0, List.map_cons, List.map_nil, List.length_cons, List.length_nil, List.replicate_succ, List.replicate_zero, List.cons_append, List.nil_append, Nat.reduceAdd, Nat.reduceSub, Nat.reduceMul, endW_rt, endW_nx, finR, isSh, IxO, seqT_shL, seqT_shT, seqT_lst, seqT_tup, atI_map, atI_c0, atI_c1, atI_c2, CE.plainC, Option.map_eq_some_iff, lenT_shL, lenT_shT, lenT_lst, lenT_tup, lenT_str, lenT_scr, lstOf_scr, tupOf_scr, T.scr.injEq, toD_scr, List.length_map, intD_int, intD_bool, max2_int, min2_int, truO_bool, truO_int, truO_list, truO_tuple, truO_none, isNone_int, isNone_none, isNone_list, isNone_tuple, isNone_str, isNone_bool, map_int_inj, qf0, qh0, SlO, Op2.C, Op2.g, Int.reduceToNat, Bk1.D, Bk2.D, atom_int, atom_bool, atom_none, atom_str, ↓uRepr_wp, ↓uRepr_pl, ↓uList_wp, ↓uList_pl, ↓uTuple_wp, ↓uTuple_pl, ↓uSorted_wp, ↓uSorted_pl, ↓uAbs_wp, ↓uAbs_pl, ↓uRev_wp, ↓uRev_pl, ↓uIsSeq_wp, ↓uIsSeq_pl, ↓bTo_wp, ↓bTo_pre, ↓bFrom_wp, ↓bFrom_pre, ↓iZip_wp, ↓bCount_wp, ↓bCount_pre, ↓bIndex_wp, ↓bIndex_pre, ↓bDivmod_wp, ↓bDivmod_pre, ↓iRange2_wp, ↓iRange3_wp, ↓bGetD_pre, ↓uListRange_wp, ↓uListRange_pl, ↓bListRange_wp, ↓bListRange_pre, ↓sRaise_wp, ↓nDict0_wp, ↓nDict0_pl, ↓iZipS_wp, ↓iZip3_wp, ↓iEnumL_wp, ↓uSumT_wp, ↓uSumT_pl, ↓tListStar_wp, ↓tListStar_pre, ↓uLen_wp, ↓uLen_pl, ↓uIsInt_wp, ↓uIsInt_pl, ↓uIsBool_wp, ↓uIsBool_pl, ↓uIsStr_wp, ↓uIsStr_pl, ↓uIsList_wp, ↓uIsList_pl, ↓uIsTuple_wp, ↓uIsTuple_pl, ↓bGetD_wp, uSumS_wp, uSumS_pl, kLawDressed0R, ↓callL h2, ↓wDrawR]
        refine ⟨p', rfl, hp', by decide, by decide, fun v p2 hp2 v0 v1 => ?_⟩
        refine ⟨fun hv => ?_, fun hv => ?_⟩
        · exact q p2 (.list rs) hp2 (by unfold Dr; rw [e]; exact ⟨rs, rfl, hpr⟩)
        · exact q p2 (.tuple rs) hp2 (by unfold Dr; rw [e]; exact ⟨rs, rfl, hpr⟩)
    rcases seq_is e with rfl | rfl
    all_goals
      simp (config := {maxSteps := 2000000}) only [↓wpS, ↓wp1, ↓wpV, ↓wpO, ↓wpT, ↓wpL, ↓wpA, ↓wpI, ↓wpTg_name, ↓andThen, ↓rdVar, ↓argVar, ↓mvVar, ↓callW, qg0, qb0, Option.map_some, Option.map_none, view_tmp, view_var, tree_tmp, tree_var, lst_tmp, lst_var, tup_tmp, tup_var, toD_sh, toD_shs, toD_shsT, toD_lnil, shs_nil', lstOf_shL, lstOf_lst, tupOf_shT, tupOf_tup, lstOf_int, tupOf_int, lstOf_tupD, tupOf_lstD, lstOf_tup, tupOf_lst, lstOf_str, tupOf_str, shs_map, shs_cons, List.set_cons_succ, List.set_cons_zero, List.getElem?_cons_zero, List.getElem?_cons_succ, Option.join_some, Option.bind_some, Option.bind_none, Option.some.injEq, Prod.mk.injEq, T.sh.injEq, T.lst.injEq, T.tup.injEq, T.dct.injEq, PyData.int.injEq, PyData.str.injEq, PyData.bool.injEq, PyData.list.injEq, PyData.tuple.injEq, List.cons.injEq, exists_eq_left', exists_eq_left, exists_and_left, exists_and_right, exists_eq', exists_eq, exists_const, and_assoc, true_and, and_true, false_and, and_false, or_false, false_or, exists_false, true_implies, false_implies, implies_true, forall_eq', forall_eq, decide_eq_true_eq, decide_eq_false_iff_not, Bool.not_eq_true', Bool.not_eq_false', Bool.not_eq_true, Bool.not_eq_false, decide_true, decide_false, Bool.not_true, Bool.not_false, Bool.false_eq_true, Bool.true_eq_false, reduceCtorEq, CmpO, cmpX_eqI, cmpX_neI, cmpX_lt, cmpX_le, cmpX_gt, cmpX_ge, cmpX_eqS, cmpX_neS, cmpX_isN, cmpX_notN, cmpX_isB, PlusO, IntO, TimesO, turn_nx, turn_ct, turn_bk, turn_rt, wipeR, eq_self, not_true_eq_false, not_false_eq_true, ite_true, ite_false, if_true, if_false, ne_eq, qd0, List.map_cons, List.map_nil, List.length_cons, List.length_nil, List.replicate_succ, List.replicate_zero, List.cons_append, List.nil_append, Nat.reduceAdd, Nat.reduceSub, Nat.reduceMul, endW_rt, endW_nx, finR, isSh, IxO, seqT_shL, seqT_shT, seqT_lst, seqT_tup, atI_map, atI_c0, atI_c1, atI_c2, CE.plainC, Option.map_eq_some_iff, lenT_shL, lenT_shT, lenT_lst, lenT_tup, lenT_str, lenT_scr, lstOf_scr, tupOf_scr, T.scr.injEq, toD_scr, List.length_map, intD_int, intD_bool, max2_int, min2_int, truO_bool, truO_int, truO_list, truO_tuple, truO_none, isNone_int, isNone_none, isNone_list, isNone_tuple, isNone_str, isNone_bool, map_int_inj, qf0, qh0, SlO, Op2.C, Op2.g, Int.reduceToNat, Bk1.D, Bk2.D, atom_int, atom_bool, atom_none, atom_str, ↓uRepr_wp, ↓uRepr_pl, ↓uList_wp, ↓uList_pl, ↓uTuple_wp, ↓uTuple_pl, ↓uSorted_wp, ↓uSorted_pl, ↓uAbs_wp, ↓uAbs_pl, ↓uRev_wp, ↓uRev_pl, ↓uIsSeq_wp, ↓uIsSeq_pl, ↓bTo_wp, ↓bTo_pre, ↓bFrom_wp, ↓bFrom_pre, ↓iZip_wp, ↓bCount_wp, ↓bCount_pre, ↓bIndex_wp, ↓bIndex_pre, ↓bDivmod_wp, ↓bDivmod_pre, ↓iRange2_wp, ↓iRange3_wp, ↓bGetD_pre, ↓uListRange_wp, ↓uListRange_pl, ↓bListRange_wp, ↓bListRange_pre, ↓sRaise_wp, ↓nDict0_wp, ↓nDict0_pl, ↓iZipS_wp, ↓iZip3_wp, ↓iEnumL_wp, ↓uSumT_wp, ↓uSumT_pl, ↓tListStar_wp, ↓tListStar_pre, ↓uLen_wp, ↓uLen_pl, ↓uIsInt_wp, ↓uIsInt_pl, ↓uIsBool_wp, ↓uIsBool_pl, ↓uIsStr_wp, ↓uIsStr_pl, ↓uIsList_wp, ↓uIsList_pl, ↓uIsTuple_wp, ↓uIsTuple_pl, ↓bGetD_wp, uSumS_wp, uSumS_pl, irLawDressedR, kit_list, kit_tuple, Bool.or_false, Bool.or_true, Bool.false_or]
      exact ⟨by omega, main⟩
theorem wDressedR_at (n : Nat) (p : Rl) (d : PyData) (Q : T → List T → Prop) (E : Value → XF → List T → Prop) : wDressedR n [.lst (rlL p), .sh d] Q E = (RlOk p ∧ dOk n d = true ∧ ∀ p' r, RlOk p' → Dr n d r → Q (.sh r) [.lst (rlL p'), .sh d]) := by
  refine propext ⟨fun ⟨p1, d1, e, h⟩ => ?_, fun h => ⟨p, d, rfl, h⟩⟩
  simp only [List.cons.injEq, T.lst.injEq, T.sh.injEq, and_true] at e
  obtain ⟨e1, rfl⟩ := e
  rw [rlL_inj e1]; exact h
def wRecR : Wp := fun as Q _ => ∃ (p : Rl) (m l : Int), as = [.lst (rlL p), .sh (.int m), .sh (.int l)] ∧ RlOk p ∧ (0 ≤ m ∧ m ≤ 399) ∧ (1 ≤ l ∧ l ≤ 10 ^ 30) ∧ ∀ (p' : Rl) (rs : List (Int × Int)), RlOk p' → RunsOk rs → Alt rs → rs.length ≤ 399 → Q (.sh (.list (rs.map t2))) [.lst (rlL p'), .sh (.int m), .sh (.int l)]
theorem wRecR_at (p : Rl) (m l : Int) (Q : T → List T → Prop) (E : Value → XF → List T → Prop) : wRecR [.lst (rlL p), .sh (.int m), .sh (.int l)] Q E = (RlOk p ∧ (0 ≤ m ∧ m ≤ 399) ∧ (1 ≤ l ∧ l ≤ 10 ^ 30) ∧ ∀ (p' : Rl) (rs : List (Int × Int)), RlOk p' → RunsOk rs → Alt rs → rs.length ≤ 399 → Q (.sh (.list (rs.map t2))) [.lst (rlL p'), .sh (.int m), .sh (.int l)]) := by
  refine propext ⟨fun ⟨p1, m1, l1, e, h⟩ => ?_, fun h => ⟨p, m, l, rfl, h⟩⟩
  simp only [List.cons.injEq, T.lst.injEq, T.sh.injEq, PyData.int.injEq, and_true] at e
  obtain ⟨e1, rfl, rfl⟩ := e
  rw [rlL_inj e1]; exact h
theorem vcRecR (Γ : Gam) (h1 : Γ.fn "_law_draw" = some wDrawR) (as : List T) (Q : T → List T → Prop) (E : Value → XF → List T → Prop) (h : wRecR as Q E) : wpS Γ irLawRecordR (qd0 ["reel", "most", "longest", "found", "turn", "change"] as) (endW as Q) := by
  obtain ⟨p, m, l, rfl, hp, ⟨m0, m1⟩, ⟨l0, l1⟩, q⟩ := h
  have hsz := sizeLine_eq
  simp (config := {maxSteps := 2000000}) only [↓wpS, ↓wp1, ↓wpV, ↓wpO, ↓wpT, ↓wpL, ↓wpA, ↓wpI, ↓wpTg_name, ↓andThen, ↓rdVar, ↓argVar, ↓mvVar, ↓callW, qg0, qb0, Option.map_some, Option.map_none, view_tmp, view_var, tree_tmp, tree_var, lst_tmp, lst_var, tup_tmp, tup_var, toD_sh, toD_shs, toD_shsT, toD_lnil, shs_nil', lstOf_shL, lstOf_lst, tupOf_shT, tupOf_tup, lstOf_int, tupOf_int, lstOf_tupD, tupOf_lstD, lstOf_tup, tupOf_lst, lstOf_str, tupOf_str, shs_map, shs_cons, List.set_cons_succ, List.set_cons_zero, List.getElem?_cons_zero, List.getElem?_cons_succ, Option.join_some, Option.bind_some, Option.bind_none, Option.some.injEq, Prod.mk.injEq, T.sh.injEq, T.lst.injEq, T.tup.injEq, T.dct.injEq, PyData.int.injEq, PyData.str.injEq, PyData.bool.injEq, PyData.list.injEq, PyData.tuple.injEq, List.cons.injEq, exists_eq_left', exists_eq_left, exists_and_left, exists_and_right, exists_eq', exists_eq, exists_const, and_assoc, true_and, and_true, false_and, and_false, or_false, false_or, exists_false, true_implies, false_implies, implies_true, forall_eq', forall_eq, decide_eq_true_eq, decide_eq_false_iff_not, Bool.not_eq_true', Bool.not_eq_false', Bool.not_eq_true, Bool.not_eq_false, decide_true, decide_false, Bool.not_true, Bool.not_false, Bool.false_eq_true, Bool.true_eq_false, reduceCtorEq, CmpO, cmpX_eqI, cmpX_neI, cmpX_lt, cmpX_le, cmpX_gt, cmpX_ge, cmpX_eqS, cmpX_neS, cmpX_isN, cmpX_notN, cmpX_isB, PlusO, IntO, TimesO, turn_nx, turn_ct, turn_bk, turn_rt, wipeR, eq_self, not_true_eq_false, not_false_eq_true, ite_true, ite_false, if_true, if_false, ne_eq, qd0, List.map_cons, List.map_nil, List.length_cons, List.length_nil, List.replicate_succ, List.replicate_zero, List.cons_append, List.nil_append, Nat.reduceAdd, Nat.reduceSub, Nat.reduceMul, endW_rt, endW_nx, finR, isSh, IxO, seqT_shL, seqT_shT, seqT_lst, seqT_tup, atI_map, atI_c0, atI_c1, atI_c2, CE.plainC, Option.map_eq_some_iff, lenT_shL, lenT_shT, lenT_lst, lenT_tup, lenT_str, lenT_scr, lstOf_scr, tupOf_scr, T.scr.injEq, toD_scr, List.length_map, intD_int, intD_bool, max2_int, min2_int, truO_bool, truO_int, truO_list, truO_tuple, truO_none, isNone_int, isNone_none, isNone_list, isNone_tuple, isNone_str, isNone_bool, map_int_inj, qf0, qh0, SlO, Op2.C, Op2.g, Int.reduceToNat, Bk1.D, Bk2.D, atom_int, atom_bool, atom_none, atom_str, ↓uRepr_wp, ↓uRepr_pl, ↓uList_wp, ↓uList_pl, ↓uTuple_wp, ↓uTuple_pl, ↓uSorted_wp, ↓uSorted_pl, ↓uAbs_wp, ↓uAbs_pl, ↓uRev_wp, ↓uRev_pl, ↓uIsSeq_wp, ↓uIsSeq_pl, ↓bTo_wp, ↓bTo_pre, ↓bFrom_wp, ↓bFrom_pre, ↓iZip_wp, ↓bCount_wp, ↓bCount_pre, ↓bIndex_wp, ↓bIndex_pre, ↓bDivmod_wp, ↓bDivmod_pre, ↓iRange2_wp, ↓iRange3_wp, ↓bGetD_pre, ↓uListRange_wp, ↓uListRange_pl, ↓bListRange_wp, ↓bListRange_pre, ↓sRaise_wp, ↓nDict0_wp, ↓nDict0_pl, ↓iZipS_wp, ↓iZip3_wp, ↓iEnumL_wp, ↓uSumT_wp, ↓uSumT_pl, ↓tListStar_wp, ↓tListStar_pre, ↓uLen_wp, ↓uLen_pl, ↓uIsInt_wp, ↓uIsInt_pl, ↓uIsBool_wp, ↓uIsBool_pl, ↓uIsStr_wp, ↓uIsStr_pl, ↓uIsList_wp, ↓uIsList_pl, ↓uIsTuple_wp, ↓uIsTuple_pl, ↓bGetD_wp, uSumS_wp, uSumS_pl, irLawRecordR, ↓callL h1, ↓wDrawR_at]
  refine ⟨by omega, hp, by omega, by omega, fun v p1 hp1 v0 v1 => ⟨by omega, by omega, ?_⟩⟩
  refine goFor_upTo (fun i ρ => ∃ (p : Rl) (rs : List (Int × Int)) (x4 x5 : Option T), RlOk p ∧ rs.length ≤ i ∧ (∀ p ∈ rs, (p.1 = 1 ∨ p.1 = 0 ∨ p.1 = -1) ∧ 1 ≤ p.2 ∧ p.2 ≤ 10 ^ 30) ∧ Alt rs ∧ ρ = [some (.lst (rlL p)), some (.sh (.int m)), some (.sh (.int l)), some (.lst ((rs.map t2).map .sh)), x4, x5])
    (fun i ρ hi h K hK => ?_) (fun ρ h => ?_) ⟨p1, [], none, none, hp1, Nat.le_refl _, by simp, trivial, rfl⟩
  · obtain ⟨p, f, x4, x5, hp, hlen, hall, halt, rfl⟩ := h
    have hcm := fun Q => cmpX_eqNil Q (pl_t2s f) (depth_t2s f)
    simp (config := {maxSteps := 2000000}) only [↓wpS, ↓wp1, ↓wpV, ↓wpO, ↓wpT, ↓wpL, ↓wpA, ↓wpI, ↓wpTg_name, ↓andThen, ↓rdVar, ↓argVar, ↓mvVar, ↓callW, qg0, qb0, Option.map_some, Option.map_none, view_tmp, view_var, tree_tmp, tree_var, lst_tmp, lst_var, tup_tmp, tup_var, toD_sh, toD_shs, toD_shsT, toD_lnil, shs_nil', lstOf_shL, lstOf_lst, tupOf_shT, tupOf_tup, lstOf_int, tupOf_int, lstOf_tupD, tupOf_lstD, lstOf_tup, tupOf_lst, lstOf_str, tupOf_str, shs_map, shs_cons, List.set_cons_succ, List.set_cons_zero, List.getElem?_cons_zero, List.getElem?_cons_succ, Option.join_some, Option.bind_some, Option.bind_none, Option.some.injEq, Prod.mk.injEq, T.sh.injEq, T.lst.injEq, T.tup.injEq, T.dct.injEq, PyData.int.injEq, PyData.str.injEq, PyData.bool.injEq, PyData.list.injEq, PyData.tuple.injEq, List.cons.injEq, exists_eq_left', exists_eq_left, exists_and_left, exists_and_right, exists_eq', exists_eq, exists_const, and_assoc, true_and, and_true, false_and, and_false, or_false, false_or, exists_false, true_implies, false_implies, implies_true, forall_eq', forall_eq, decide_eq_true_eq, decide_eq_false_iff_not, Bool.not_eq_true', Bool.not_eq_false', Bool.not_eq_true, Bool.not_eq_false, decide_true, decide_false, Bool.not_true, Bool.not_false, Bool.false_eq_true, Bool.true_eq_false, reduceCtorEq, CmpO, cmpX_eqI, cmpX_neI, cmpX_lt, cmpX_le, cmpX_gt, cmpX_ge, cmpX_eqS, cmpX_neS, cmpX_isN, cmpX_notN, cmpX_isB, PlusO, IntO, TimesO, turn_nx, turn_ct, turn_bk, turn_rt, wipeR, eq_self, not_true_eq_false, not_false_eq_true, ite_true, ite_false, if_true, if_false, ne_eq, qd0, List.map_cons, List.map_nil, List.length_cons, List.length_nil, List.replicate_succ, List.replicate_zero, List.cons_append, List.nil_append, Nat.reduceAdd, Nat.reduceSub, Nat.reduceMul, endW_rt, endW_nx, finR, isSh, IxO, seqT_shL, seqT_shT, seqT_lst, seqT_tup, atI_map, atI_c0, atI_c1, atI_c2, CE.plainC, Option.map_eq_some_iff, lenT_shL, lenT_shT, lenT_lst, lenT_tup, lenT_str, lenT_scr, lstOf_scr, tupOf_scr, T.scr.injEq, toD_scr, List.length_map, intD_int, intD_bool, max2_int, min2_int, truO_bool, truO_int, truO_list, truO_tuple, truO_none, isNone_int, isNone_none, isNone_list, isNone_tuple, isNone_str, isNone_bool, map_int_inj, qf0, qh0, SlO, Op2.C, Op2.g, Int.reduceToNat, Bk1.D, Bk2.D, atom_int, atom_bool, atom_none, atom_str, ↓uRepr_wp, ↓uRepr_pl, ↓uList_wp, ↓uList_pl, ↓uTuple_wp, ↓uTuple_pl, ↓uSorted_wp, ↓uSorted_pl, ↓uAbs_wp, ↓uAbs_pl, ↓uRev_wp, ↓uRev_pl, ↓uIsSeq_wp, ↓uIsSeq_pl, ↓bTo_wp, ↓bTo_pre, ↓bFrom_wp, ↓bFrom_pre, ↓iZip_wp, ↓bCount_wp, ↓bCount_pre, ↓bIndex_wp, ↓bIndex_pre, ↓bDivmod_wp, ↓bDivmod_pre, ↓iRange2_wp, ↓iRange3_wp, ↓bGetD_pre, ↓uListRange_wp, ↓uListRange_pl, ↓bListRange_wp, ↓bListRange_pre, ↓sRaise_wp, ↓nDict0_wp, ↓nDict0_pl, ↓iZipS_wp, ↓iZip3_wp, ↓iEnumL_wp, ↓uSumT_wp, ↓uSumT_pl, ↓tListStar_wp, ↓tListStar_pre, ↓uLen_wp, ↓uLen_pl, ↓uIsInt_wp, ↓uIsInt_pl, ↓uIsBool_wp, ↓uIsBool_pl, ↓uIsStr_wp, ↓uIsStr_pl, ↓uIsList_wp, ↓uIsList_pl, ↓uIsTuple_wp, ↓uIsTuple_pl, ↓bGetD_wp, uSumS_wp, uSumS_pl, lLawRecord1R, ↓callL h1, ↓wDrawR_at, hcm]
    refine ⟨hp, by omega, by omega, fun c p2 hp2 c0 c1 => ?_⟩
    have hch : c - 1 = 1 ∨ c - 1 = 0 ∨ c - 1 = -1 := by omega
    rcases List.eq_nil_or_concat f with rfl | ⟨f', q1, rfl⟩
    · simp (config := {maxSteps := 2000000}) only [↓wpS, ↓wp1, ↓wpV, ↓wpO, ↓wpT, ↓wpL, ↓wpA, ↓wpI, ↓wpTg_name, ↓andThen, ↓rdVar, ↓argVar, ↓mvVar, ↓callW, qg0, qb0, Option.map_some, Option.map_none, view_tmp, view_var, tree_tmp, tree_var, lst_tmp, lst_var, tup_tmp, tup_var, toD_sh, toD_shs, toD_shsT, toD_lnil, shs_nil', lstOf_shL, lstOf_lst, tupOf_shT, tupOf_tup, lstOf_int, tupOf_int, lstOf_tupD, tupOf_lstD, lstOf_tup, tupOf_lst, lstOf_str, tupOf_str, shs_map, shs_cons, List.set_cons_succ, List.set_cons_zero, List.getElem?_cons_zero, List.getElem?_cons_succ, Option.join_some, Option.bind_some, Option.bind_none, Option.some.injEq, Prod.mk.injEq, T.sh.injEq, T.lst.injEq, T.tup.injEq, T.dct.injEq, PyData.int.injEq, PyData.str.injEq, PyData.bool.injEq, PyData.list.injEq, PyData.tuple.injEq, List.cons.injEq, exists_eq_left', exists_eq_left, exists_and_left, exists_and_right, exists_eq', exists_eq, exists_const, and_assoc, true_and, and_true, false_and, and_false, or_false, false_or, exists_false, true_implies, false_implies, implies_true, forall_eq', forall_eq, decide_eq_true_eq, decide_eq_false_iff_not, Bool.not_eq_true', Bool.not_eq_false', Bool.not_eq_true, Bool.not_eq_false, decide_true, decide_false, Bool.not_true, Bool.not_false, Bool.false_eq_true, Bool.true_eq_false, reduceCtorEq, CmpO, cmpX_eqI, cmpX_neI, cmpX_lt, cmpX_le, cmpX_gt, cmpX_ge, cmpX_eqS, cmpX_neS, cmpX_isN, cmpX_notN, cmpX_isB, PlusO, IntO, TimesO, turn_nx, turn_ct, turn_bk, turn_rt, wipeR, eq_self, not_true_eq_false, not_false_eq_true, ite_true, ite_false, if_true, if_false, ne_eq, qd0, List.map_cons, List.map_nil, List.length_cons, List.length_nil, List.replicate_succ, List.replicate_zero, List.cons_append, List.nil_append, Nat.reduceAdd, Nat.reduceSub, Nat.reduceMul, endW_rt, endW_nx, finR, isSh, IxO, seqT_shL, seqT_shT, seqT_lst, seqT_tup, atI_map, atI_c0, atI_c1, atI_c2, CE.plainC, Option.map_eq_some_iff, lenT_shL, lenT_shT, lenT_lst, lenT_tup, lenT_str, lenT_scr, lstOf_scr, tupOf_scr, T.scr.injEq, toD_scr, List.length_map, intD_int, intD_bool, max2_int, min2_int, truO_bool, truO_int, truO_list, truO_tuple, truO_none, isNone_int, isNone_none, isNone_list, isNone_tuple, isNone_str, isNone_bool, map_int_inj, qf0, qh0, SlO, Op2.C, Op2.g, Int.reduceToNat, Bk1.D, Bk2.D, atom_int, atom_bool, atom_none, atom_str, ↓uRepr_wp, ↓uRepr_pl, ↓uList_wp, ↓uList_pl, ↓uTuple_wp, ↓uTuple_pl, ↓uSorted_wp, ↓uSorted_pl, ↓uAbs_wp, ↓uAbs_pl, ↓uRev_wp, ↓uRev_pl, ↓uIsSeq_wp, ↓uIsSeq_pl, ↓bTo_wp, ↓bTo_pre, ↓bFrom_wp, ↓bFrom_pre, ↓iZip_wp, ↓bCount_wp, ↓bCount_pre, ↓bIndex_wp, ↓bIndex_pre, ↓bDivmod_wp, ↓bDivmod_pre, ↓iRange2_wp, ↓iRange3_wp, ↓bGetD_pre, ↓uListRange_wp, ↓uListRange_pl, ↓bListRange_wp, ↓bListRange_pre, ↓sRaise_wp, ↓nDict0_wp, ↓nDict0_pl, ↓iZipS_wp, ↓iZip3_wp, ↓iEnumL_wp, ↓uSumT_wp, ↓uSumT_pl, ↓tListStar_wp, ↓tListStar_pre, ↓uLen_wp, ↓uLen_pl, ↓uIsInt_wp, ↓uIsInt_pl, ↓uIsBool_wp, ↓uIsBool_pl, ↓uIsStr_wp, ↓uIsStr_pl, ↓uIsList_wp, ↓uIsList_pl, ↓uIsTuple_wp, ↓uIsTuple_pl, ↓bGetD_wp, uSumS_wp, uSumS_pl, List.isEmpty_nil, toD_tup, toDs_cons, toDs_nil, ↓callL h1, ↓wDrawR_at]
      refine ⟨by omega, hp2, by omega, by omega, fun v p3 hp3 w0 w1 => ⟨by omega, by omega, ?_⟩⟩
      exact hK _ ⟨p3, [(c - 1, 1 + v)], _, _, hp3, by simp, fun p hp => by rw [List.mem_singleton.mp hp]; exact ⟨hch, by show 1 ≤ 1 + v; omega, by show 1 + v ≤ 10 ^ 30; omega⟩, trivial, rfl⟩
    · simp only [List.concat_eq_append] at *
      have e1 : atI (f' ++ [q1]) (-1) = some q1 := by
        rw [atI_last (by simp)]; simp
      have e3 : ((f' ++ [q1]).map t2).isEmpty = false := by simp
      simp (config := {maxSteps := 2000000}) only [↓wpS, ↓wp1, ↓wpV, ↓wpO, ↓wpT, ↓wpL, ↓wpA, ↓wpI, ↓wpTg_name, ↓andThen, ↓rdVar, ↓argVar, ↓mvVar, ↓callW, qg0, qb0, Option.map_some, Option.map_none, view_tmp, view_var, tree_tmp, tree_var, lst_tmp, lst_var, tup_tmp, tup_var, toD_sh, toD_shs, toD_shsT, toD_lnil, shs_nil', lstOf_shL, lstOf_lst, tupOf_shT, tupOf_tup, lstOf_int, tupOf_int, lstOf_tupD, tupOf_lstD, lstOf_tup, tupOf_lst, lstOf_str, tupOf_str, shs_map, shs_cons, List.set_cons_succ, List.set_cons_zero, List.getElem?_cons_zero, List.getElem?_cons_succ, Option.join_some, Option.bind_some, Option.bind_none, Option.some.injEq, Prod.mk.injEq, T.sh.injEq, T.lst.injEq, T.tup.injEq, T.dct.injEq, PyData.int.injEq, PyData.str.injEq, PyData.bool.injEq, PyData.list.injEq, PyData.tuple.injEq, List.cons.injEq, exists_eq_left', exists_eq_left, exists_and_left, exists_and_right, exists_eq', exists_eq, exists_const, and_assoc, true_and, and_true, false_and, and_false, or_false, false_or, exists_false, true_implies, false_implies, implies_true, forall_eq', forall_eq, decide_eq_true_eq, decide_eq_false_iff_not, Bool.not_eq_true', Bool.not_eq_false', Bool.not_eq_true, Bool.not_eq_false, decide_true, decide_false, Bool.not_true, Bool.not_false, Bool.false_eq_true, Bool.true_eq_false, reduceCtorEq, CmpO, cmpX_eqI, cmpX_neI, cmpX_lt, cmpX_le, cmpX_gt, cmpX_ge, cmpX_eqS, cmpX_neS, cmpX_isN, cmpX_notN, cmpX_isB, PlusO, IntO, TimesO, turn_nx, turn_ct, turn_bk, turn_rt, wipeR, eq_self, not_true_eq_false, not_false_eq_true, ite_true, ite_false, if_true, if_false, ne_eq, qd0, List.map_cons, List.map_nil, List.length_cons, List.length_nil, List.replicate_succ, List.replicate_zero, List.cons_append, List.nil_append, Nat.reduceAdd, Nat.reduceSub, Nat.reduceMul, endW_rt, endW_nx, finR, isSh, IxO, seqT_shL, seqT_shT, seqT_lst, seqT_tup, atI_map, atI_c0, atI_c1, atI_c2, CE.plainC, Option.map_eq_some_iff, lenT_shL, lenT_shT, lenT_lst, lenT_tup, lenT_str, lenT_scr, lstOf_scr, tupOf_scr, T.scr.injEq, toD_scr, List.length_map, intD_int, intD_bool, max2_int, min2_int, truO_bool, truO_int, truO_list, truO_tuple, truO_none, isNone_int, isNone_none, isNone_list, isNone_tuple, isNone_str, isNone_bool, map_int_inj, qf0, qh0, SlO, Op2.C, Op2.g, Int.reduceToNat, Bk1.D, Bk2.D, atom_int, atom_bool, atom_none, atom_str, ↓uRepr_wp, ↓uRepr_pl, ↓uList_wp, ↓uList_pl, ↓uTuple_wp, ↓uTuple_pl, ↓uSorted_wp, ↓uSorted_pl, ↓uAbs_wp, ↓uAbs_pl, ↓uRev_wp, ↓uRev_pl, ↓uIsSeq_wp, ↓uIsSeq_pl, ↓bTo_wp, ↓bTo_pre, ↓bFrom_wp, ↓bFrom_pre, ↓iZip_wp, ↓bCount_wp, ↓bCount_pre, ↓bIndex_wp, ↓bIndex_pre, ↓bDivmod_wp, ↓bDivmod_pre, ↓iRange2_wp, ↓iRange3_wp, ↓bGetD_pre, ↓uListRange_wp, ↓uListRange_pl, ↓bListRange_wp, ↓bListRange_pre, ↓sRaise_wp, ↓nDict0_wp, ↓nDict0_pl, ↓iZipS_wp, ↓iZip3_wp, ↓iEnumL_wp, ↓uSumT_wp, ↓uSumT_pl, ↓tListStar_wp, ↓tListStar_pre, ↓uLen_wp, ↓uLen_pl, ↓uIsInt_wp, ↓uIsInt_pl, ↓uIsBool_wp, ↓uIsBool_pl, ↓uIsStr_wp, ↓uIsStr_pl, ↓uIsList_wp, ↓uIsList_pl, ↓uIsTuple_wp, ↓uIsTuple_pl, ↓bGetD_wp, uSumS_wp, uSumS_pl, e1, e3, t2, seqT_shT, toD_tup, toDs_cons, toDs_nil, exists_eq_right, exists_eq_right', ↓callL h1, ↓wDrawR_at]
      refine ⟨by omega, fun hc => ⟨hp2, by omega, by omega, fun v p3 hp3 w0 w1 => ⟨by omega, by omega, ?_⟩⟩, fun hc => hK _ ⟨p2, f' ++ [q1], _, _, hp2, by omega, hall, halt, rfl⟩⟩
      have key := hK _ ⟨p3, f' ++ [q1] ++ [(c - 1, 1 + v)], some (.sh (.int (i : Int))), some (.sh (.int (c - 1))), hp3, by rw [List.length_append]; exact Nat.succ_le_succ hlen, fun p hp => by
        rcases List.mem_append.mp hp with hp | hp
        · exact hall p hp
        · rw [List.mem_singleton.mp hp]; exact ⟨hch, by show 1 ≤ 1 + v; omega, by show 1 + v ≤ 10 ^ 30; omega⟩, alt_snoc halt hc, rfl⟩
      simpa [t2] using key
  · obtain ⟨p, f, x4, x5, hp, hlen, hall, halt, rfl⟩ := h
    simp (config := {maxSteps := 2000000}) only [↓wpS, ↓wp1, ↓wpV, ↓wpO, ↓wpT, ↓wpL, ↓wpA, ↓wpI, ↓wpTg_name, ↓andThen, ↓rdVar, ↓argVar, ↓mvVar, ↓callW, qg0, qb0, Option.map_some, Option.map_none, view_tmp, view_var, tree_tmp, tree_var, lst_tmp, lst_var, tup_tmp, tup_var, toD_sh, toD_shs, toD_shsT, toD_lnil, shs_nil', lstOf_shL, lstOf_lst, tupOf_shT, tupOf_tup, lstOf_int, tupOf_int, lstOf_tupD, tupOf_lstD, lstOf_tup, tupOf_lst, lstOf_str, tupOf_str, shs_map, shs_cons, List.set_cons_succ, List.set_cons_zero, List.getElem?_cons_zero, List.getElem?_cons_succ, Option.join_some, Option.bind_some, Option.bind_none, Option.some.injEq, Prod.mk.injEq, T.sh.injEq, T.lst.injEq, T.tup.injEq, T.dct.injEq, PyData.int.injEq, PyData.str.injEq, PyData.bool.injEq, PyData.list.injEq, PyData.tuple.injEq, List.cons.injEq, exists_eq_left', exists_eq_left, exists_and_left, exists_and_right, exists_eq', exists_eq, exists_const, and_assoc, true_and, and_true, false_and, and_false, or_false, false_or, exists_false, true_implies, false_implies, implies_true, forall_eq', forall_eq, decide_eq_true_eq, decide_eq_false_iff_not, Bool.not_eq_true', Bool.not_eq_false', Bool.not_eq_true, Bool.not_eq_false, decide_true, decide_false, Bool.not_true, Bool.not_false, Bool.false_eq_true, Bool.true_eq_false, reduceCtorEq, CmpO, cmpX_eqI, cmpX_neI, cmpX_lt, cmpX_le, cmpX_gt, cmpX_ge, cmpX_eqS, cmpX_neS, cmpX_isN, cmpX_notN, cmpX_isB, PlusO, IntO, TimesO, turn_nx, turn_ct, turn_bk, turn_rt, wipeR, eq_self, not_true_eq_false, not_false_eq_true, ite_true, ite_false, if_true, if_false, ne_eq, qd0, List.map_cons, List.map_nil, List.length_cons, List.length_nil, List.replicate_succ, List.replicate_zero, List.cons_append, List.nil_append, Nat.reduceAdd, Nat.reduceSub, Nat.reduceMul, endW_rt, endW_nx, finR, isSh, IxO, seqT_shL, seqT_shT, seqT_lst, seqT_tup, atI_map, atI_c0, atI_c1, atI_c2, CE.plainC, Option.map_eq_some_iff, lenT_shL, lenT_shT, lenT_lst, lenT_tup, lenT_str, lenT_scr, lstOf_scr, tupOf_scr, T.scr.injEq, toD_scr, List.length_map, intD_int, intD_bool, max2_int, min2_int, truO_bool, truO_int, truO_list, truO_tuple, truO_none, isNone_int, isNone_none, isNone_list, isNone_tuple, isNone_str, isNone_bool, map_int_inj, qf0, qh0, SlO, Op2.C, Op2.g, Int.reduceToNat, Bk1.D, Bk2.D, atom_int, atom_bool, atom_none, atom_str, ↓uRepr_wp, ↓uRepr_pl, ↓uList_wp, ↓uList_pl, ↓uTuple_wp, ↓uTuple_pl, ↓uSorted_wp, ↓uSorted_pl, ↓uAbs_wp, ↓uAbs_pl, ↓uRev_wp, ↓uRev_pl, ↓uIsSeq_wp, ↓uIsSeq_pl, ↓bTo_wp, ↓bTo_pre, ↓bFrom_wp, ↓bFrom_pre, ↓iZip_wp, ↓bCount_wp, ↓bCount_pre, ↓bIndex_wp, ↓bIndex_pre, ↓bDivmod_wp, ↓bDivmod_pre, ↓iRange2_wp, ↓iRange3_wp, ↓bGetD_pre, ↓uListRange_wp, ↓uListRange_pl, ↓bListRange_wp, ↓bListRange_pre, ↓sRaise_wp, ↓nDict0_wp, ↓nDict0_pl, ↓iZipS_wp, ↓iZip3_wp, ↓iEnumL_wp, ↓uSumT_wp, ↓uSumT_pl, ↓tListStar_wp, ↓tListStar_pre, ↓uLen_wp, ↓uLen_pl, ↓uIsInt_wp, ↓uIsInt_pl, ↓uIsBool_wp, ↓uIsBool_pl, ↓uIsStr_wp, ↓uIsStr_pl, ↓uIsList_wp, ↓uIsList_pl, ↓uIsTuple_wp, ↓uIsTuple_pl, ↓bGetD_wp, uSumS_wp, uSumS_pl, kLawRecord0R]
    exact q p f hp ⟨by omega, hall⟩ halt (by omega)
end Oak
namespace Oak
open PySem PySem.Spec PyProof.Rows L2
open Tee (CmpD tyName zipD)
def kLawBad0Z : CSs := (.cons (.ret (.frz (.plus (.var 5) (.frz (.list (.cons .non (.cons (.int 0) (.cons (.str "") (.cons (.str "u1") (.cons (.nul nDict0) (.cons (.bl true) (.cons (.frz (.tup (.cons (.int 1) (.cons (.int 1) .nil)))) (.cons (.list (.cons (.int 1) (.cons (.int 1) .nil))) (.cons (.list (.cons (.list (.cons (.frz (.tup (.cons (.int 1) (.cons (.int 1) .nil)))) .nil)) .nil)) (.cons (.var 8) (.cons (.un uTuple (.var 8)) .nil)))))))))))))))) .nil)
def eLawBad1Z : CE := (.frz (.tup (.cons (.op .mod (.var 7) (.int 2)) (.cons (.int 1) .nil))))
def kLawBad2Z : CSs := (.cons (.ife (.cmp .NotEq (.var 1) (.list .nil)) (.cons (.set 6 (.call "_law_draw" (.cons (.var 0) (.cons (.un uLen (.var 1)) .nil)))) (.cons (.app 5 (.frz (.plus (.plus (.bin bTo (.var 1) (.var 6)) (.list (.cons (.ix (.var 1) (.var 6)) .nil))) (.bin bFrom (.var 1) (.var 6))))) .nil)) .nil) (.cons (.setLc 8 eLawBad1Z (.name 7) (.range (.int 401)) [("turn", 7)]) kLawBad0Z))
def eLawBad3Z : CE := (.frz (.plus (.plus (.bin bTo (.var 1) (.var 2)) (.list (.cons (.var 4) .nil))) (.bin bFrom (.var 1) (.var 2))))
def irLawBadZ : CSs := (.cons (.set 2 (.call "_law_draw" (.cons (.var 0) (.cons (.plus (.un uLen (.var 1)) (.int 1)) .nil)))) (.cons (.set 3 (.list (.cons (.frz (.tup (.cons (.int 1) (.cons (.int 0) .nil)))) (.cons (.frz (.tup (.cons (.int 1) (.cons (.neg (.int 1)) .nil)))) (.cons (.frz (.tup (.cons (.int 2) (.cons (.int 1) .nil)))) (.cons (.frz (.tup (.cons (.neg (.int 2)) (.cons (.int 1) .nil)))) (.cons (.frz (.tup (.cons (.bl true) (.cons (.int 1) .nil)))) (.cons (.frz (.tup (.cons (.int 1) (.cons (.bl true) .nil)))) (.cons (.frz (.tup (.cons (.int 0) (.cons (.plus (.op .pow (.int 10) (.int 30)) (.int 1)) .nil)))) (.cons (.frz (.tup (.cons (.int 0) (.cons (.op .pow (.int 10) (.int 39)) .nil)))) (.cons (.frz (.tup (.cons .non (.cons (.int 1) .nil)))) .nil))))))))))) (.cons (.set 3 (.plus (.var 3) (.frz (.list (.cons (.frz (.tup (.cons (.str "1") (.cons (.int 1) .nil)))) (.cons (.frz (.tup (.cons (.int 1) (.cons (.str "1") .nil)))) (.cons (.frz (.tup (.cons (.int 1) .nil))) (.cons (.frz (.tup (.cons (.int 0) (.cons (.int 1) (.cons (.int 1) .nil))))) (.cons (.frz (.tup .nil)) (.cons .non (.cons (.int 1) (.cons (.str "u1") (.cons (.list (.cons (.list (.cons (.int 1) .nil)) (.cons (.int 1) .nil))) (.cons (.frz (.tup (.cons (.bl false) (.cons (.int 1) .nil)))) (.cons (.nul nDict0) (.cons (.frz (.tup (.cons (.int 1) (.cons .non .nil)))) .nil)))))))))))))))) (.cons (.setLc 5 eLawBad3Z (.name 4) (.list (.var 3)) [("one", 4)]) kLawBad2Z))))
def fitB (d : PyData) (n k : Nat) : Bool := Tee.okD d && (decide (Tee.siz d ≤ n) && decide (d.depth ≤ k))
theorem fit_of {d : PyData} {n k : Nat} (h : fitB d n k = true) : Tee.Fit d n k := by
  obtain ⟨a, b⟩ := Bool.and_eq_true_iff.mp h
  obtain ⟨b, c⟩ := Bool.and_eq_true_iff.mp b
  exact ⟨a, of_decide_eq_true b, of_decide_eq_true c⟩
theorem fit_some {xs : List PyData} {n k m : Nat} (h : ∀ d ∈ xs, Tee.Fit d n k) (hl : xs.length ≤ m) : Tee.FitA xs (m * (n + 2)) k := (Tee.FitA.all h).mono (Nat.mul_le_mul_right _ hl) (Nat.le_refl _)
def oddR : List PyData := [.tuple [.int 1, .int 0], .tuple [.int 1, .int (-1)], .tuple [.int 2, .int 1], .tuple [.int (-2), .int 1], .tuple [.bool true, .int 1], .tuple [.int 1, .bool true], .tuple [.int 0, .int (10 ^ 30 + 1)], .tuple [.int 0, .int (10 ^ 39)], .tuple [.none, .int 1],
  .tuple [.str "1", .int 1], .tuple [.int 1, .str "1"], .tuple [.int 1], .tuple [.int 0, .int 1, .int 1], .tuple [], .none, .int 1, .str "u1", .list [.list [.int 1], .int 1], .tuple [.bool false, .int 1], .dict [], .tuple [.int 1, .none]]
def longD : List PyData := (List.range 401).map fun i : Nat => .tuple [.int ((i : Int) % 2), .int 1]
def moreR : List PyData := [.none, .int 0, .str "", .str "u1", .dict [], .bool true, .tuple [.int 1, .int 1], .list [.int 1, .int 1], .list [.list [.tuple [.int 1, .int 1]]], .list longD, .tuple longD]
def putR (xs : List PyData) (n : Nat) (d : PyData) : PyData := .list (xs.take n ++ [d] ++ xs.drop n)
theorem oddR_bad : ∀ y ∈ oddR, runB y = false := by
  have h : (oddR.all fun y => !runB y) = true := by decide +kernel
  intro y hy
  have := List.all_eq_true.mp h y hy
  cases q : runB y with
  | false => rfl
  | true => rw [q] at this; cases this
theorem oddR_fit : ∀ y ∈ oddR, Tee.Fit y 150 2 := by
  have h : (oddR.all fun y => fitB y 150 2) = true := by decide +kernel
  intro y hy
  exact fit_of (List.all_eq_true.mp h y hy)
theorem moreR_bad : ∀ y ∈ moreR, recB y = false := by
  have h : (moreR.all fun y => !recB y) = true := by decide +kernel
  intro y hy
  have := List.all_eq_true.mp h y hy
  cases q : recB y with
  | false => rfl
  | true => rw [q] at this; cases this
theorem moreR_fit : ∀ y ∈ moreR, Tee.Fit y 60000 3 := by
  have h : (moreR.all fun y => fitB y 60000 3) = true := by decide +kernel
  intro y hy
  exact fit_of (List.all_eq_true.mp h y hy)
theorem recGo_bad {x : PyData} (hx : runB x = false) : ∀ (xs ys : List PyData) (b : PyData), recGo (xs ++ x :: ys) b = false
  | [], ys, b => by rw [List.nil_append, recGo, hx]; rfl
  | y :: xs, ys, b => by
    rw [List.cons_append, recGo]
    split
    · rw [recGo_bad hx xs ys, Bool.and_false, Bool.and_false]
    · rw [Bool.and_false]
theorem recGo_twice {x : PyData} {c n : Int} (hx : seqB x = some [.int c, .int n]) : ∀ (xs ys : List PyData) (b : PyData), recGo (xs ++ x :: x :: ys) b = false
  | [], ys, b => by
    have e : PyData.eqv (.int c) (.int c) = true := by simp [PyData.eqv]
    simp only [List.nil_append, recGo, hx, e, Bool.not_true, Bool.false_and, Bool.and_false]
  | y :: xs, ys, b => by
    rw [List.cons_append, recGo]
    split
    · rw [recGo_twice hx xs ys, Bool.and_false, Bool.and_false]
    · rw [Bool.and_false]
theorem recB_goF {ds : List PyData} (h : recGo ds .none = false) : recB (.list ds) = false := by
  show (decide (ds.length ≤ 400) && recGo ds .none) = false
  rw [h, Bool.and_false]
theorem put_bad {xs : List PyData} {n : Nat} {d : PyData} (h : runB d = false) : recB (putR xs n d) = false := recB_goF (by
  rw [List.append_assoc, List.singleton_append]; exact recGo_bad h _ _ _)
theorem put_twice {rs : List (Int × Int)} {n : Nat} {p : Int × Int} (h : rs[n]? = some p) : recB (putR (rs.map t2) n (t2 p)) = false := recB_goF (by
  have hn := (List.getElem?_eq_some_iff.mp h).1
  have e : (rs.map t2).drop n = t2 p :: (rs.map t2).drop (n + 1) := by
    rw [List.drop_eq_getElem_cons (by rw [List.length_map]; exact hn), List.getElem_map, (List.getElem?_eq_some_iff.mp h).2]
  rw [e, List.append_assoc, List.singleton_append]; exact recGo_twice (c := p.1) (n := p.2) rfl _ _ _)
theorem put_fit {rs : List (Int × Int)} (hr : RunsOk rs) {n : Nat} {d : PyData} (hd : Tee.Fit d 150 2) : Tee.Fit (putR (rs.map t2) n d) 80000 3 := by
  have f : ∀ d ∈ rs.map t2, Tee.Fit d 89 2 := fun d hd => by
    obtain ⟨p, hp, rfl⟩ := List.mem_map.mp hd
    have := hr.2 p hp
    exact (Tee.Fit.tuple (Tee.FitA.cons (Tee.Fit.int (k := 0) (i := p.1) (by omega)) (Tee.FitA.cons (Tee.Fit.int (k := 0) (i := p.2) (by omega)) Tee.FitA.nil))).mono
  have hl : (rs.map t2).length ≤ 400 := by rw [List.length_map]; exact hr.1
  have a := fit_some (m := 400) (fun d hd => f d (List.mem_of_mem_take hd)) (by rw [List.length_take]; omega : ((rs.map t2).take n).length ≤ 400)
  have b := fit_some (m := 400) (fun d hd => f d (List.mem_of_mem_drop hd)) (by rw [List.length_drop]; omega : ((rs.map t2).drop n).length ≤ 400)
  exact (Tee.Fit.list ((a.app (Tee.FitA.cons hd Tee.FitA.nil)).app b)).mono (by omega) (Nat.le_refl _)
def wBadR : Wp := fun as Q _ => ∃ (p : Rl) (rs : List (Int × Int)), as = [.lst (rlL p), .sh (.list (rs.map t2))] ∧ RlOk p ∧ RunsOk rs ∧ rs.length ≤ 399 ∧ ∀ (p' : Rl) (bs : List PyData), RlOk p' → (∀ d ∈ bs, recB d = false) → bs.length ≤ 1000 → Tee.FitA bs 3000000 3 → Q (.sh (.list bs)) [.lst (rlL p'), .sh (.list (rs.map t2))]
theorem wBadR_at (p : Rl) (rs : List (Int × Int)) (Q : T → List T → Prop) (E : Value → XF → List T → Prop) : wBadR [.lst (rlL p), .sh (.list (rs.map t2))] Q E = (RlOk p ∧ RunsOk rs ∧ rs.length ≤ 399 ∧ ∀ (p' : Rl) (bs : List PyData), RlOk p' → (∀ d ∈ bs, recB d = false) → bs.length ≤ 1000 → Tee.FitA bs 3000000 3 → Q (.sh (.list bs)) [.lst (rlL p'), .sh (.list (rs.map t2))]) := by
  refine propext ⟨fun ⟨p1, r1, e, h⟩ => ?_, fun h => ⟨p, rs, rfl, h⟩⟩
  simp only [List.cons.injEq, T.lst.injEq, T.sh.injEq, PyData.list.injEq, and_true] at e
  obtain ⟨e1, e2⟩ := e
  have e3 : rs = r1 := List.map_inj_right (fun _ _ => t2_inj.mp) |>.mp e2
  subst e3
  rw [rlL_inj e1]; exact h
theorem vcBadR (Γ : Gam) (h1 : Γ.fn "_law_draw" = some wDrawR) (as : List T) (Q : T → List T → Prop) (E : Value → XF → List T → Prop) (h : wBadR as Q E) : wpS Γ irLawBadZ (qd0 ["reel", "runs", "at", "odd", "one", "found", "spot", "turn", "long"] as) (endW as Q) := by
  obtain ⟨p, rs, rfl, hp, hr, hl, q⟩ := h
  have hsz := sizeLine_eq
  have hs : ∀ n, n ≤ 1000 → (n ≤ sizeLine) = True := fun n h => eq_true (by omega)
  have hdn : toD (.dct [] []) = some (.dict []) := rfl
  have hc30 : CPow 10 30 := ⟨by decide, by decide, by decide⟩
  have hc39 : CPow 10 39 := ⟨by decide, by decide, by decide⟩
  simp (config := {maxSteps := 2000000}) only [↓wpS, ↓wp1, ↓wpV, ↓wpO, ↓wpT, ↓wpL, ↓wpA, ↓wpI, ↓wpTg_name, ↓andThen, ↓rdVar, ↓argVar, ↓mvVar, ↓callW, qg0, qb0, Option.map_some, Option.map_none, view_tmp, view_var, tree_tmp, tree_var, lst_tmp, lst_var, tup_tmp, tup_var, toD_sh, toD_shs, toD_shsT, toD_lnil, shs_nil', lstOf_shL, lstOf_lst, tupOf_shT, tupOf_tup, lstOf_int, tupOf_int, lstOf_tupD, tupOf_lstD, lstOf_tup, tupOf_lst, lstOf_str, tupOf_str, shs_map, shs_cons, List.set_cons_succ, List.set_cons_zero, List.getElem?_cons_zero, List.getElem?_cons_succ, Option.join_some, Option.bind_some, Option.bind_none, Option.some.injEq, Prod.mk.injEq, T.sh.injEq, T.lst.injEq, T.tup.injEq, T.dct.injEq, PyData.int.injEq, PyData.str.injEq, PyData.bool.injEq, PyData.list.injEq, PyData.tuple.injEq, List.cons.injEq, exists_eq_left', exists_eq_left, exists_and_left, exists_and_right, exists_eq', exists_eq, exists_const, and_assoc, true_and, and_true, false_and, and_false, or_false, false_or, exists_false, true_implies, false_implies, implies_true, forall_eq', forall_eq, decide_eq_true_eq, decide_eq_false_iff_not, Bool.not_eq_true', Bool.not_eq_false', Bool.not_eq_true, Bool.not_eq_false, decide_true, decide_false, Bool.not_true, Bool.not_false, Bool.false_eq_true, Bool.true_eq_false, reduceCtorEq, CmpO, cmpX_eqI, cmpX_neI, cmpX_lt, cmpX_le, cmpX_gt, cmpX_ge, cmpX_eqS, cmpX_neS, cmpX_isN, cmpX_notN, cmpX_isB, PlusO, IntO, TimesO, turn_nx, turn_ct, turn_bk, turn_rt, wipeR, eq_self, not_true_eq_false, not_false_eq_true, ite_true, ite_false, if_true, if_false, ne_eq, qd0, List.map_cons, List.map_nil, List.length_cons, List.length_nil, List.replicate_succ, List.replicate_zero, List.cons_append, List.nil_append, Nat.reduceAdd, Nat.reduceSub, Nat.reduceMul, endW_rt, endW_nx, finR, isSh, IxO, seqT_shL, seqT_shT, seqT_lst, seqT_tup, atI_map, atI_c0, atI_c1, atI_c2, CE.plainC, Option.map_eq_some_iff, lenT_shL, lenT_shT, lenT_lst, lenT_tup, lenT_str, lenT_scr, lstOf_scr, tupOf_scr, T.scr.injEq, toD_scr, List.length_map, intD_int, intD_bool, max2_int, min2_int, truO_bool, truO_int, truO_list, truO_tuple, truO_none, isNone_int, isNone_none, isNone_list, isNone_tuple, isNone_str, isNone_bool, map_int_inj, qf0, qh0, SlO, Op2.C, Op2.g, Int.reduceToNat, Bk1.D, Bk2.D, atom_int, atom_bool, atom_none, atom_str, ↓uRepr_wp, ↓uRepr_pl, ↓uList_wp, ↓uList_pl, ↓uTuple_wp, ↓uTuple_pl, ↓uSorted_wp, ↓uSorted_pl, ↓uAbs_wp, ↓uAbs_pl, ↓uRev_wp, ↓uRev_pl, ↓uIsSeq_wp, ↓uIsSeq_pl, ↓bTo_wp, ↓bTo_pre, ↓bFrom_wp, ↓bFrom_pre, ↓iZip_wp, ↓bCount_wp, ↓bCount_pre, ↓bIndex_wp, ↓bIndex_pre, ↓bDivmod_wp, ↓bDivmod_pre, ↓iRange2_wp, ↓iRange3_wp, ↓bGetD_pre, ↓uListRange_wp, ↓uListRange_pl, ↓bListRange_wp, ↓bListRange_pre, ↓sRaise_wp, ↓nDict0_wp, ↓nDict0_pl, ↓iZipS_wp, ↓iZip3_wp, ↓iEnumL_wp, ↓uSumT_wp, ↓uSumT_pl, ↓tListStar_wp, ↓tListStar_pre, ↓uLen_wp, ↓uLen_pl, ↓uIsInt_wp, ↓uIsInt_pl, ↓uIsBool_wp, ↓uIsBool_pl, ↓uIsStr_wp, ↓uIsStr_pl, ↓uIsList_wp, ↓uIsList_pl, ↓uIsTuple_wp, ↓uIsTuple_pl, ↓bGetD_wp, uSumS_wp, uSumS_pl, irLawBadZ, ↓callL h1, ↓wDrawR_at, toD_tup, toD_lst, toDs_cons, toDs_nil, hs, hc30, hc39, Nat.reduceLeDiff, hdn]
  refine ⟨hp, by omega, by omega, fun v p1 hp1 v0 v1 => ?_⟩
  obtain ⟨n, rfl⟩ : ∃ n : Nat, v = (n : Int) := ⟨v.toNat, by omega⟩
  have hxl : (rs.map t2).length ≤ 399 := by rw [List.length_map]; exact hl
  have hnl : n ≤ (rs.map t2).length := by rw [List.length_map]; omega
  have c1 : Tee.cutD (rs.map t2) none (some (n : Int)) = (rs.map t2).take n := cut_to (by omega)
  have c2 : Tee.cutD (rs.map t2) (some (n : Int)) none = (rs.map t2).drop n := cut_from (by omega)
  have l1 : ((rs.map t2).take n).length ≤ 399 := by rw [List.length_take]; omega
  have l2 : ((rs.map t2).drop n).length ≤ 399 := by rw [List.length_drop]; omega
  refine (?_ : goLc _ _ _ _ _ (oddR.map id) [] [some (T.lst (rlL p1)), some (T.sh (PyData.list (List.map t2 rs))), some (T.sh (PyData.int (n : Int))), some (.sh (.list oddR)), none, none, none, none, none])
  refine goLc_mapM id (fun d => .sh (putR (rs.map t2) n d)) (fun d hd K hK => ?_) ?_
  · simp (config := {maxSteps := 2000000}) only [↓wpS, ↓wp1, ↓wpV, ↓wpO, ↓wpT, ↓wpL, ↓wpA, ↓wpI, ↓wpTg_name, ↓andThen, ↓rdVar, ↓argVar, ↓mvVar, ↓callW, qg0, qb0, Option.map_some, Option.map_none, view_tmp, view_var, tree_tmp, tree_var, lst_tmp, lst_var, tup_tmp, tup_var, toD_sh, toD_shs, toD_shsT, toD_lnil, shs_nil', lstOf_shL, lstOf_lst, tupOf_shT, tupOf_tup, lstOf_int, tupOf_int, lstOf_tupD, tupOf_lstD, lstOf_tup, tupOf_lst, lstOf_str, tupOf_str, shs_map, shs_cons, List.set_cons_succ, List.set_cons_zero, List.getElem?_cons_zero, List.getElem?_cons_succ, Option.join_some, Option.bind_some, Option.bind_none, Option.some.injEq, Prod.mk.injEq, T.sh.injEq, T.lst.injEq, T.tup.injEq, T.dct.injEq, PyData.int.injEq, PyData.str.injEq, PyData.bool.injEq, PyData.list.injEq, PyData.tuple.injEq, List.cons.injEq, exists_eq_left', exists_eq_left, exists_and_left, exists_and_right, exists_eq', exists_eq, exists_const, and_assoc, true_and, and_true, false_and, and_false, or_false, false_or, exists_false, true_implies, false_implies, implies_true, forall_eq', forall_eq, decide_eq_true_eq, decide_eq_false_iff_not, Bool.not_eq_true', Bool.not_eq_false', Bool.not_eq_true, Bool.not_eq_false, decide_true, decide_false, Bool.not_true, Bool.not_false, Bool.false_eq_true, Bool.true_eq_false, reduceCtorEq, CmpO, cmpX_eqI, cmpX_neI, cmpX_lt, cmpX_le, cmpX_gt, cmpX_ge, cmpX_eqS, cmpX_neS, cmpX_isN, cmpX_notN, cmpX_isB, PlusO, IntO, TimesO, turn_nx, turn_ct, turn_bk, turn_rt, wipeR, eq_self, not_true_eq_false, not_false_eq_true, ite_true, ite_false, if_true, if_false, ne_eq, qd0, List.map_cons, List.map_nil, List.length_cons, List.length_nil, List.replicate_succ, List.replicate_zero, List.cons_append, List.nil_append, Nat.reduceAdd, Nat.reduceSub, Nat.reduceMul, endW_rt, endW_nx, finR, isSh, IxO, seqT_shL, seqT_shT, seqT_lst, seqT_tup, atI_map, atI_c0, atI_c1, atI_c2, CE.plainC, Option.map_eq_some_iff, lenT_shL, lenT_shT, lenT_lst, lenT_tup, lenT_str, lenT_scr, lstOf_scr, tupOf_scr, T.scr.injEq, toD_scr, List.length_map, intD_int, intD_bool, max2_int, min2_int, truO_bool, truO_int, truO_list, truO_tuple, truO_none, isNone_int, isNone_none, isNone_list, isNone_tuple, isNone_str, isNone_bool, map_int_inj, qf0, qh0, SlO, Op2.C, Op2.g, Int.reduceToNat, Bk1.D, Bk2.D, atom_int, atom_bool, atom_none, atom_str, ↓uRepr_wp, ↓uRepr_pl, ↓uList_wp, ↓uList_pl, ↓uTuple_wp, ↓uTuple_pl, ↓uSorted_wp, ↓uSorted_pl, ↓uAbs_wp, ↓uAbs_pl, ↓uRev_wp, ↓uRev_pl, ↓uIsSeq_wp, ↓uIsSeq_pl, ↓bTo_wp, ↓bTo_pre, ↓bFrom_wp, ↓bFrom_pre, ↓iZip_wp, ↓bCount_wp, ↓bCount_pre, ↓bIndex_wp, ↓bIndex_pre, ↓bDivmod_wp, ↓bDivmod_pre, ↓iRange2_wp, ↓iRange3_wp, ↓bGetD_pre, ↓uListRange_wp, ↓uListRange_pl, ↓bListRange_wp, ↓bListRange_pre, ↓sRaise_wp, ↓nDict0_wp, ↓nDict0_pl, ↓iZipS_wp, ↓iZip3_wp, ↓iEnumL_wp, ↓uSumT_wp, ↓uSumT_pl, ↓tListStar_wp, ↓tListStar_pre, ↓uLen_wp, ↓uLen_pl, ↓uIsInt_wp, ↓uIsInt_pl, ↓uIsBool_wp, ↓uIsBool_pl, ↓uIsStr_wp, ↓uIsStr_pl, ↓uIsList_wp, ↓uIsList_pl, ↓uIsTuple_wp, ↓uIsTuple_pl, ↓bGetD_wp, uSumS_wp, uSumS_pl, eLawBad3Z, id, c1, c2, toD_lst, toDs_sh]
    exact ⟨by omega, by omega, by rw [List.length_append, List.length_singleton]; omega, hK _ rfl⟩
  · rw [show (oddR.map fun d => T.sh (putR (rs.map t2) n d)) = (oddR.map (putR (rs.map t2) n)).map T.sh by rw [List.map_map]; rfl]
    have fO : ∀ d ∈ oddR.map (putR (rs.map t2) n), recB d = false ∧ Tee.Fit d 80000 3 := fun d hd => by
      obtain ⟨y, hy, rfl⟩ := List.mem_map.mp hd
      exact ⟨put_bad (oddR_bad y hy), put_fit hr (oddR_fit y hy)⟩
    have lO : (oddR.map (putR (rs.map t2) n)).length = 21 := by rw [List.length_map]; rfl
    generalize oddR.map (putR (rs.map t2) n) = fs at *
    have hcm := fun Q => cmpX_neNil Q (pl_t2s rs) (depth_t2s rs)
    have fin : ∀ (p2 : Rl) (gs : List PyData) (x6 : Option T), RlOk p2 → (∀ d ∈ gs, recB d = false ∧ Tee.Fit d 80000 3) → gs.length ≤ 22 →
        goLc (wpTg (CTg.name 7)) (fun ρ k => k true ρ) (fun ρ k => wpV Γ.calm eLawBad1Z ρ k) [7] (fun acc ρ2 => wpS Γ kLawBad0Z (List.set ρ2 8 (some (T.lst acc))) (endW [T.lst (rlL p), T.sh (PyData.list (List.map t2 rs))] Q)) (Tee.upTo 401) []
          [some (T.lst (rlL p2)), some (T.sh (PyData.list (List.map t2 rs))), some (T.sh (PyData.int n)), some (T.sh (PyData.list oddR)), none, some (T.lst (List.map T.sh gs)), x6, none, none] := by
      intro p2 gs x6 hp2 hg hgl
      rw [show Tee.upTo 401 = (List.range 401).map fun i : Nat => PyData.int (i : Int) from rfl]
      refine goLc_mapM (fun i : Nat => PyData.int (i : Int)) (fun i : Nat => .sh (.tuple [.int ((i : Int) % 2), .int 1])) (fun i hi K hK => ?_) ?_
      · simp (config := {maxSteps := 2000000}) only [↓wpS, ↓wp1, ↓wpV, ↓wpO, ↓wpT, ↓wpL, ↓wpA, ↓wpI, ↓wpTg_name, ↓andThen, ↓rdVar, ↓argVar, ↓mvVar, ↓callW, qg0, qb0, Option.map_some, Option.map_none, view_tmp, view_var, tree_tmp, tree_var, lst_tmp, lst_var, tup_tmp, tup_var, toD_sh, toD_shs, toD_shsT, toD_lnil, shs_nil', lstOf_shL, lstOf_lst, tupOf_shT, tupOf_tup, lstOf_int, tupOf_int, lstOf_tupD, tupOf_lstD, lstOf_tup, tupOf_lst, lstOf_str, tupOf_str, shs_map, shs_cons, List.set_cons_succ, List.set_cons_zero, List.getElem?_cons_zero, List.getElem?_cons_succ, Option.join_some, Option.bind_some, Option.bind_none, Option.some.injEq, Prod.mk.injEq, T.sh.injEq, T.lst.injEq, T.tup.injEq, T.dct.injEq, PyData.int.injEq, PyData.str.injEq, PyData.bool.injEq, PyData.list.injEq, PyData.tuple.injEq, List.cons.injEq, exists_eq_left', exists_eq_left, exists_and_left, exists_and_right, exists_eq', exists_eq, exists_const, and_assoc, true_and, and_true, false_and, and_false, or_false, false_or, exists_false, true_implies, false_implies, implies_true, forall_eq', forall_eq, decide_eq_true_eq, decide_eq_false_iff_not, Bool.not_eq_true', Bool.not_eq_false', Bool.not_eq_true, Bool.not_eq_false, decide_true, decide_false, Bool.not_true, Bool.not_false, Bool.false_eq_true, Bool.true_eq_false, reduceCtorEq, CmpO, cmpX_eqI, cmpX_neI, cmpX_lt, cmpX_le, cmpX_gt, cmpX_ge, cmpX_eqS, cmpX_neS, cmpX_isN, cmpX_notN, cmpX_isB, PlusO, IntO, TimesO, turn_nx, turn_ct, turn_bk, turn_rt, wipeR, eq_self, not_true_eq_false, not_false_eq_true, ite_true, ite_false, if_true, if_false, ne_eq, qd0, List.map_cons, List.map_nil, List.length_cons, List.length_nil, List.replicate_succ, List.replicate_zero, List.cons_append, List.nil_append, Nat.reduceAdd, Nat.reduceSub, Nat.reduceMul, endW_rt, endW_nx, finR, isSh, IxO, seqT_shL, seqT_shT, seqT_lst, seqT_tup, atI_map, atI_c0, atI_c1, atI_c2, CE.plainC, Option.map_eq_some_iff, lenT_shL, lenT_shT, lenT_lst, lenT_tup, lenT_str, lenT_scr, lstOf_scr, tupOf_scr, T.scr.injEq, toD_scr, List.length_map, intD_int, intD_bool, max2_int, min2_int, truO_bool, truO_int, truO_list, truO_tuple, truO_none, isNone_int, isNone_none, isNone_list, isNone_tuple, isNone_str, isNone_bool, map_int_inj, qf0, qh0, SlO, Op2.C, Op2.g, Int.reduceToNat, Bk1.D, Bk2.D, atom_int, atom_bool, atom_none, atom_str, ↓uRepr_wp, ↓uRepr_pl, ↓uList_wp, ↓uList_pl, ↓uTuple_wp, ↓uTuple_pl, ↓uSorted_wp, ↓uSorted_pl, ↓uAbs_wp, ↓uAbs_pl, ↓uRev_wp, ↓uRev_pl, ↓uIsSeq_wp, ↓uIsSeq_pl, ↓bTo_wp, ↓bTo_pre, ↓bFrom_wp, ↓bFrom_pre, ↓iZip_wp, ↓bCount_wp, ↓bCount_pre, ↓bIndex_wp, ↓bIndex_pre, ↓bDivmod_wp, ↓bDivmod_pre, ↓iRange2_wp, ↓iRange3_wp, ↓bGetD_pre, ↓uListRange_wp, ↓uListRange_pl, ↓bListRange_wp, ↓bListRange_pre, ↓sRaise_wp, ↓nDict0_wp, ↓nDict0_pl, ↓iZipS_wp, ↓iZip3_wp, ↓iEnumL_wp, ↓uSumT_wp, ↓uSumT_pl, ↓tListStar_wp, ↓tListStar_pre, ↓uLen_wp, ↓uLen_pl, ↓uIsInt_wp, ↓uIsInt_pl, ↓uIsBool_wp, ↓uIsBool_pl, ↓uIsStr_wp, ↓uIsStr_pl, ↓uIsList_wp, ↓uIsList_pl, ↓uIsTuple_wp, ↓uIsTuple_pl, ↓bGetD_wp, uSumS_wp, uSumS_pl, eLawBad1Z, toD_tup, toDs_cons, toDs_nil, hs, Nat.reduceLeDiff]
        exact ⟨by decide, hK _ rfl⟩
      · rw [show ((List.range 401).map fun i : Nat => T.sh (.tuple [.int ((i : Int) % 2), .int 1])) = longD.map T.sh by unfold longD; rw [List.map_map]; rfl]
        have lL : longD.length = 401 := by unfold longD; rw [List.length_map, List.length_range]
        have hb : ∀ d ∈ gs ++ moreR, recB d = false := fun d hd => (List.mem_append.mp hd).elim (fun h => (hg d h).1) (moreR_bad d)
        have hf : Tee.FitA (gs ++ moreR) 3000000 3 := by
          have a := fit_some (m := 22) (fun d hd => (hg d hd).2) hgl
          have b := fit_some (m := 11) moreR_fit (by decide)
          exact (a.app b).mono (by omega) (Nat.le_refl _)
        have hl2 : (gs ++ moreR).length ≤ 1000 := by rw [List.length_append]; have : moreR.length = 11 := rfl; omega
        have key := q p2 _ hp2 hb hl2 hf
        unfold moreR at key hl2
        generalize longD = lg at *
        simp (config := {maxSteps := 2000000}) only [↓wpS, ↓wp1, ↓wpV, ↓wpO, ↓wpT, ↓wpL, ↓wpA, ↓wpI, ↓wpTg_name, ↓andThen, ↓rdVar, ↓argVar, ↓mvVar, ↓callW, qg0, qb0, Option.map_some, Option.map_none, view_tmp, view_var, tree_tmp, tree_var, lst_tmp, lst_var, tup_tmp, tup_var, toD_sh, toD_shs, toD_shsT, toD_lnil, shs_nil', lstOf_shL, lstOf_lst, tupOf_shT, tupOf_tup, lstOf_int, tupOf_int, lstOf_tupD, tupOf_lstD, lstOf_tup, tupOf_lst, lstOf_str, tupOf_str, shs_map, shs_cons, List.set_cons_succ, List.set_cons_zero, List.getElem?_cons_zero, List.getElem?_cons_succ, Option.join_some, Option.bind_some, Option.bind_none, Option.some.injEq, Prod.mk.injEq, T.sh.injEq, T.lst.injEq, T.tup.injEq, T.dct.injEq, PyData.int.injEq, PyData.str.injEq, PyData.bool.injEq, PyData.list.injEq, PyData.tuple.injEq, List.cons.injEq, exists_eq_left', exists_eq_left, exists_and_left, exists_and_right, exists_eq', exists_eq, exists_const, and_assoc, true_and, and_true, false_and, and_false, or_false, false_or, exists_false, true_implies, false_implies, implies_true, forall_eq', forall_eq, decide_eq_true_eq, decide_eq_false_iff_not, Bool.not_eq_true', Bool.not_eq_false', Bool.not_eq_true, Bool.not_eq_false, decide_true, decide_false, Bool.not_true, Bool.not_false, Bool.false_eq_true, Bool.true_eq_false, reduceCtorEq, CmpO, cmpX_eqI, cmpX_neI, cmpX_lt, cmpX_le, cmpX_gt, cmpX_ge, cmpX_eqS, cmpX_neS, cmpX_isN, cmpX_notN, cmpX_isB, PlusO, IntO, TimesO, turn_nx, turn_ct, turn_bk, turn_rt, wipeR, eq_self, not_true_eq_false, not_false_eq_true, ite_true, ite_false, if_true, if_false, ne_eq, qd0, List.map_cons, List.map_nil, List.length_cons, List.length_nil, List.cons_append, List.nil_append, Nat.reduceAdd, Nat.reduceSub, Nat.reduceMul, endW_rt, endW_nx, finR, isSh, IxO, seqT_shL, seqT_shT, seqT_lst, seqT_tup, atI_map, atI_c0, atI_c1, atI_c2, CE.plainC, Option.map_eq_some_iff, lenT_shL, lenT_shT, lenT_lst, lenT_tup, lenT_str, lenT_scr, lstOf_scr, tupOf_scr, T.scr.injEq, toD_scr, List.length_map, intD_int, intD_bool, max2_int, min2_int, truO_bool, truO_int, truO_list, truO_tuple, truO_none, isNone_int, isNone_none, isNone_list, isNone_tuple, isNone_str, isNone_bool, map_int_inj, qf0, qh0, SlO, Op2.C, Op2.g, Int.reduceToNat, Bk1.D, Bk2.D, atom_int, atom_bool, atom_none, atom_str, ↓uRepr_wp, ↓uRepr_pl, ↓uList_wp, ↓uList_pl, ↓uTuple_wp, ↓uTuple_pl, ↓uSorted_wp, ↓uSorted_pl, ↓uAbs_wp, ↓uAbs_pl, ↓uRev_wp, ↓uRev_pl, ↓uIsSeq_wp, ↓uIsSeq_pl, ↓bTo_wp, ↓bTo_pre, ↓bFrom_wp, ↓bFrom_pre, ↓iZip_wp, ↓bCount_wp, ↓bCount_pre, ↓bIndex_wp, ↓bIndex_pre, ↓bDivmod_wp, ↓bDivmod_pre, ↓iRange2_wp, ↓iRange3_wp, ↓bGetD_pre, ↓uListRange_wp, ↓uListRange_pl, ↓bListRange_wp, ↓bListRange_pre, ↓sRaise_wp, ↓nDict0_wp, ↓nDict0_pl, ↓iZipS_wp, ↓iZip3_wp, ↓iEnumL_wp, ↓uSumT_wp, ↓uSumT_pl, ↓tListStar_wp, ↓tListStar_pre, ↓uLen_wp, ↓uLen_pl, ↓uIsInt_wp, ↓uIsInt_pl, ↓uIsBool_wp, ↓uIsBool_pl, ↓uIsStr_wp, ↓uIsStr_pl, ↓uIsList_wp, ↓uIsList_pl, ↓uIsTuple_wp, ↓uIsTuple_pl, ↓bGetD_wp, uSumS_wp, uSumS_pl, kLawBad0Z, toD_tup, toD_lst, toDs_sh, toDs_cons, toDs_nil, hs, hdn, Nat.reduceLeDiff]
        exact ⟨by omega, key⟩
    simp (config := {maxSteps := 2000000}) only [↓wpS, ↓wp1, ↓wpV, ↓wpO, ↓wpT, ↓wpL, ↓wpA, ↓wpI, ↓wpTg_name, ↓andThen, ↓rdVar, ↓argVar, ↓mvVar, ↓callW, qg0, qb0, Option.map_some, Option.map_none, view_tmp, view_var, tree_tmp, tree_var, lst_tmp, lst_var, tup_tmp, tup_var, toD_sh, toD_shs, toD_shsT, toD_lnil, shs_nil', lstOf_shL, lstOf_lst, tupOf_shT, tupOf_tup, lstOf_int, tupOf_int, lstOf_tupD, tupOf_lstD, lstOf_tup, tupOf_lst, lstOf_str, tupOf_str, shs_map, shs_cons, List.set_cons_succ, List.set_cons_zero, List.getElem?_cons_zero, List.getElem?_cons_succ, Option.join_some, Option.bind_some, Option.bind_none, Option.some.injEq, Prod.mk.injEq, T.sh.injEq, T.lst.injEq, T.tup.injEq, T.dct.injEq, PyData.int.injEq, PyData.str.injEq, PyData.bool.injEq, PyData.list.injEq, PyData.tuple.injEq, List.cons.injEq, exists_eq_left', exists_eq_left, exists_and_left, exists_and_right, exists_eq', exists_eq, exists_const, and_assoc, true_and, and_true, false_and, and_false, or_false, false_or, exists_false, true_implies, false_implies, implies_true, forall_eq', forall_eq, decide_eq_true_eq, decide_eq_false_iff_not, Bool.not_eq_true', Bool.not_eq_false', Bool.not_eq_true, Bool.not_eq_false, decide_true, decide_false, Bool.not_true, Bool.not_false, Bool.false_eq_true, Bool.true_eq_false, reduceCtorEq, CmpO, cmpX_eqI, cmpX_neI, cmpX_lt, cmpX_le, cmpX_gt, cmpX_ge, cmpX_eqS, cmpX_neS, cmpX_isN, cmpX_notN, cmpX_isB, PlusO, IntO, TimesO, turn_nx, turn_ct, turn_bk, turn_rt, wipeR, eq_self, not_true_eq_false, not_false_eq_true, ite_true, ite_false, if_true, if_false, ne_eq, qd0, List.map_cons, List.map_nil, List.length_cons, List.length_nil, List.replicate_succ, List.replicate_zero, List.cons_append, List.nil_append, Nat.reduceAdd, Nat.reduceSub, Nat.reduceMul, endW_rt, endW_nx, finR, isSh, IxO, seqT_shL, seqT_shT, seqT_lst, seqT_tup, atI_map, atI_c0, atI_c1, atI_c2, CE.plainC, Option.map_eq_some_iff, lenT_shL, lenT_shT, lenT_lst, lenT_tup, lenT_str, lenT_scr, lstOf_scr, tupOf_scr, T.scr.injEq, toD_scr, List.length_map, intD_int, intD_bool, max2_int, min2_int, truO_bool, truO_int, truO_list, truO_tuple, truO_none, isNone_int, isNone_none, isNone_list, isNone_tuple, isNone_str, isNone_bool, map_int_inj, qf0, qh0, SlO, Op2.C, Op2.g, Int.reduceToNat, Bk1.D, Bk2.D, atom_int, atom_bool, atom_none, atom_str, ↓uRepr_wp, ↓uRepr_pl, ↓uList_wp, ↓uList_pl, ↓uTuple_wp, ↓uTuple_pl, ↓uSorted_wp, ↓uSorted_pl, ↓uAbs_wp, ↓uAbs_pl, ↓uRev_wp, ↓uRev_pl, ↓uIsSeq_wp, ↓uIsSeq_pl, ↓bTo_wp, ↓bTo_pre, ↓bFrom_wp, ↓bFrom_pre, ↓iZip_wp, ↓bCount_wp, ↓bCount_pre, ↓bIndex_wp, ↓bIndex_pre, ↓bDivmod_wp, ↓bDivmod_pre, ↓iRange2_wp, ↓iRange3_wp, ↓bGetD_pre, ↓uListRange_wp, ↓uListRange_pl, ↓bListRange_wp, ↓bListRange_pre, ↓sRaise_wp, ↓nDict0_wp, ↓nDict0_pl, ↓iZipS_wp, ↓iZip3_wp, ↓iEnumL_wp, ↓uSumT_wp, ↓uSumT_pl, ↓tListStar_wp, ↓tListStar_pre, ↓uLen_wp, ↓uLen_pl, ↓uIsInt_wp, ↓uIsInt_pl, ↓uIsBool_wp, ↓uIsBool_pl, ↓uIsStr_wp, ↓uIsStr_pl, ↓uIsList_wp, ↓uIsList_pl, ↓uIsTuple_wp, ↓uIsTuple_pl, ↓bGetD_wp, uSumS_wp, uSumS_pl, kLawBad2Z, ↓callL h1, ↓wDrawR_at, hcm]
    refine ⟨by omega, fun hne => ?_, fun _ => ⟨by decide, by decide, by rw [Tee.upTo_len]; decide, fin p1 fs none hp1 fO (by omega)⟩⟩
    have hpos : 0 < rs.length := by
      cases rs with
      | nil => cases hne
      | cons _ _ => exact Nat.succ_pos _
    refine ⟨hp1, by omega, by omega, fun w p2 hp2 w0 w1 => ?_⟩
    obtain ⟨j, rfl⟩ : ∃ j : Nat, w = (j : Int) := ⟨w.toNat, by omega⟩
    have hj : j < rs.length := by omega
    have hat : atI rs (j : Int) = some rs[j] := by rw [atI_pos (by omega)]; simp [hj]
    have d1 : Tee.cutD (rs.map t2) none (some (j : Int)) = (rs.map t2).take j := cut_to (by omega)
    have d2 : Tee.cutD (rs.map t2) (some (j : Int)) none = (rs.map t2).drop j := cut_from (by omega)
    have m1 : ((rs.map t2).take j).length ≤ 399 := by rw [List.length_take]; omega
    have m2 : ((rs.map t2).drop j).length ≤ 399 := by rw [List.length_drop]; omega
    rw [d1, d2]
    refine ⟨t2 rs[j], ⟨_, ⟨_, hat, rfl⟩, rfl⟩, by omega, by omega, by rw [List.length_append, List.length_singleton]; omega, by omega, by decide, by decide, by rw [Tee.upTo_len]; decide, ?_⟩
    have hp1 : recB (putR (rs.map t2) j (t2 rs[j])) = false := put_twice (List.getElem?_eq_getElem hj)
    have hf1 : Tee.Fit (t2 rs[j]) 150 2 := by
      have := hr.2 rs[j] (List.getElem_mem hj)
      exact (Tee.Fit.tuple (Tee.FitA.cons (Tee.Fit.int (k := 0) (i := rs[j].1) (by omega)) (Tee.FitA.cons (Tee.Fit.int (k := 0) (i := rs[j].2) (by omega)) Tee.FitA.nil))).mono
    have key := fin p2 (fs ++ [putR (rs.map t2) j (t2 rs[j])]) (some (.sh (.int j))) hp2 (fun d hd => by
      rcases List.mem_append.mp hd with hd | hd
      · exact fO d hd
      · rw [List.mem_singleton.mp hd]; exact ⟨hp1, put_fit hr hf1⟩) (by rw [List.length_append, List.length_singleton]; omega)
    rw [List.map_append] at key
    exact key
end Oak
namespace Oak
open PySem PySem.Spec PyProof.Rows L2
open Tee (CmpD tyName zipD)
def kLaw0Z : CSs := (.cons (.ret (.and (.cmp .Is (.call "is_record" (.cons (.frz (.list (.cons (.frz (.tup (.cons (.int 1) (.cons (.int 1) .nil)))) (.cons (.frz (.tup (.cons (.int 1) (.cons (.int 1) .nil)))) .nil)))) .nil)) (.bl false)) (.cmp .Is (.call "is_record" (.cons (.frz (.list (.cons (.frz (.tup (.cons (.int 1) (.cons (.int 1) .nil)))) (.cons (.frz (.tup (.cons (.int 0) (.cons (.int 1) .nil)))) (.cons (.frz (.tup (.cons (.int 1) (.cons (.int 1) .nil)))) .nil))))) .nil)) (.bl true)))) .nil)
def kLaw1Z : CSs := (.cons (.ife (.cmp .NotEq (.un uRepr (.list (.cons (.var 6) (.cons (.var 7) .nil)))) (.var 8)) (.cons (.ret (.bl false)) .nil) .nil) .nil)
def eLaw2Z : CE := (.var 9)
def tLaw3Z : CE := (.cmp .IsNot (.call "is_record" (.cons (.var 9) .nil)) (.bl false))
def kLaw4Z : CSs := (.cons (.ife (.cmp .NotEq (.lcIf eLaw2Z (.name 9) (.list (.var 7)) tLaw3Z [("value", 9)]) (.list .nil)) (.cons (.ret (.bl false)) .nil) .nil) kLaw1Z)
def eLaw5Z : CE := (.var 9)
def tLaw6Z : CE := (.cmp .IsNot (.call "is_record" (.cons (.var 9) .nil)) (.bl true))
def kLaw7Z : CSs := (.cons (.set 6 (.list (.cons (.var 3) (.cons (.call "_law_dressed" (.cons (.var 1) (.cons (.var 3) .nil))) (.cons (.list .nil) (.cons (.frz (.tup .nil)) (.cons (.var 5) (.cons (.list (.cons (.list (.cons (.int 0) (.cons (.int 1) .nil))) .nil)) .nil)))))))) (.cons (.set 7 (.call "_law_bad" (.cons (.var 1) (.cons (.var 3) .nil)))) (.cons (.set 8 (.un uRepr (.list (.cons (.var 6) (.cons (.var 7) .nil))))) (.cons (.ife (.cmp .NotEq (.lcIf eLaw5Z (.name 9) (.list (.var 6)) tLaw6Z [("value", 9)]) (.list .nil)) (.cons (.ret (.bl false)) .nil) .nil) kLaw4Z))))
def eLaw8Z : CE := (.frz (.tup (.cons (.op .sub (.op .mod (.var 4) (.int 3)) (.int 1)) (.cons (.op .pow (.int 10) (.int 30)) .nil))))
def lLaw9Z : CSs := (.cons (.set 3 (.call "_law_record" (.cons (.var 1) (.cons (.ix (.list (.cons (.int 9) (.cons (.int 399) .nil))) (.call "_law_draw" (.cons (.var 1) (.cons (.int 2) .nil)))) (.cons (.ix (.list (.cons (.int 3) (.cons (.op .pow (.int 10) (.int 30)) .nil))) (.call "_law_draw" (.cons (.var 1) (.cons (.int 2) .nil)))) .nil))))) (.cons (.setLc 5 eLaw8Z (.name 4) (.range (.int 400)) [("turn", 4)]) kLaw7Z))
def irLawZ : CSs := (.cons (.set 1 (.call "_law_reel" (.cons (.var 0) .nil))) (.cons (.loop (.name 2) (.range (.plus (.int 2) (.b2 .min2 (.un uLen (.var 0)) (.int 4)))) lLaw9Z) kLaw0Z))
def wh (i : Nat) : Int × Int := ((i : Int) % 3 - 1, 10 ^ 30)
def whole : List (Int × Int) := (List.range 400).map wh
theorem whole_ok : RunsOk whole := ⟨by unfold whole; rw [List.length_map, List.length_range]; exact Nat.le_refl _, fun p hp => by
  unfold whole at hp
  obtain ⟨i, _, rfl⟩ := List.mem_map.mp hp
  unfold wh
  refine ⟨?_, by show (1 : Int) ≤ 10 ^ 30; decide, Int.le_refl _⟩
  show (i : Int) % 3 - 1 = 1 ∨ (i : Int) % 3 - 1 = 0 ∨ (i : Int) % 3 - 1 = -1
  omega⟩
theorem whole_rec : recB (.list (whole.map t2)) = true := by decide +kernel
theorem wRec_at (d : PyData) (Q : T → List T → Prop) (E : Value → XF → List T → Prop) : wRec [.sh d] Q E = Q (.sh (.bool (recB d))) [.sh d] := by
  refine propext ⟨fun ⟨d1, e, h⟩ => ?_, fun h => ⟨d, rfl, h⟩⟩
  simp only [List.cons.injEq, T.sh.injEq, and_true] at e
  subst e; exact h
theorem cmpX_notB1 (i j : Bool) (Q : Bool → Prop) : CmpX .IsNot (.bool i) (.bool j) Q = Q (!decide (i = j)) := rfl
theorem cmpX_neNil0 (Q : Bool → Prop) : CmpX .NotEq (.list []) (.list []) Q = Q false := cmpX_neNil Q (ds := []) rfl (by decide)
theorem goLc_none {tg : PyData → Rho → (Rho → Prop) → Prop} {tst : Rho → (Bool → Rho → Prop) → Prop} {el : Rho → (T → Rho → Prop) → Prop} {vs : List Nat} {Q : List T → Rho → Prop} {ρ0 : Rho} {ds : List PyData}
    (step : ∀ d ∈ ds, ∀ (K : T → Rho → Prop) (K' : Rho → Prop), (∀ ρ3, wipeR ρ3 vs = ρ0 → K' ρ3) → tg d ρ0 fun ρ1 => tst ρ1 fun b ρ2 => (b = true → el ρ2 K) ∧ (b = false → K' ρ2))
    (fin : Q [] ρ0) : goLc tg tst el vs Q ds [] ρ0 := by
  have h := goLc_filterM (tg := tg) (test := tst) (el := el) (vs := vs) (Q := Q) (ρ0 := ρ0) (xs := ds) id (fun _ => false) (fun d => .sh d) (fun d hd K K' hK hK' => ?_) ?_
  · rw [List.map_id] at h; exact h
  · exact step d hd K K' (hK' rfl)
  · rw [show ds.filter (fun _ => false) = [] from List.filter_eq_nil_iff.mpr (by simp)]; exact fin
theorem lawTail {Γ : Gam} (h6 : Γ.fn "is_record" = some wRec) {G bs : List PyData} (hg : ∀ d ∈ G, recB d = true) (hb : ∀ d ∈ bs, recB d = false) (hgl : G.length ≤ 1000) (hbl : bs.length ≤ 1000) (s1 : (PyData.list [.list G, .list bs]).shown.length ≤ sizeLine) (s2 : (PyData.list [.list G, .list bs]).showable = true) (s4 : (PyData.list [.list G, .list bs]).depth ≤ 60)
    (a0 a1 a2 a3 a5 : Option T) (X : Prop) (R : Out → Prop) (hR : R (.nx [a0, a1, a2, a3, none, a5, some (.sh (.list G)), some (.sh (.list bs)), some (.sh (.str (PyData.list [.list G, .list bs]).shown)), none])) :
    goLc (wpTg (CTg.name 9)) (fun ρ k => wpT Γ.calm tLaw6Z ρ k) (fun ρ k => wpV Γ.calm eLaw5Z ρ k) [9]
      (fun acc ρ2 => 0 ≤ sizeLine ∧ ∃ da, (∃ a, toDs acc = some a ∧ PyData.list a = da) ∧ CmpX CmpOp.NotEq da (PyData.list []) fun k => (k = true → X) ∧ (k = false → wpS Γ kLaw4Z ρ2 R))
      G [] [a0, a1, a2, a3, none, a5, some (.sh (.list G)), some (.sh (.list bs)), some (.sh (.str (PyData.list [.list G, .list bs]).shown)), none] := by
  have hsz := sizeLine_eq
  refine goLc_none (fun d hd K K' hK' => ?_) ?_
  · simp (config := {maxSteps := 2000000}) only [↓wpS, ↓wp1, ↓wpV, ↓wpO, ↓wpT, ↓wpL, ↓wpA, ↓wpI, ↓wpTg_name, ↓andThen, ↓rdVar, ↓argVar, ↓mvVar, ↓callW, qg0, qb0, Option.map_some, Option.map_none, view_tmp, view_var, tree_tmp, tree_var, lst_tmp, lst_var, tup_tmp, tup_var, toD_sh, toD_shs, toD_shsT, toD_lnil, shs_nil', lstOf_shL, lstOf_lst, tupOf_shT, tupOf_tup, lstOf_int, tupOf_int, lstOf_tupD, tupOf_lstD, lstOf_tup, tupOf_lst, lstOf_str, tupOf_str, shs_map, shs_cons, List.set_cons_succ, List.set_cons_zero, List.getElem?_cons_zero, List.getElem?_cons_succ, Option.join_some, Option.bind_some, Option.bind_none, Option.some.injEq, Prod.mk.injEq, T.sh.injEq, T.lst.injEq, T.tup.injEq, T.dct.injEq, PyData.int.injEq, PyData.str.injEq, PyData.bool.injEq, PyData.list.injEq, PyData.tuple.injEq, List.cons.injEq, exists_eq_left', exists_eq_left, exists_and_left, exists_and_right, exists_eq', exists_eq, exists_const, and_assoc, true_and, and_true, false_and, and_false, or_false, false_or, exists_false, true_implies, false_implies, implies_true, forall_eq', forall_eq, decide_eq_true_eq, decide_eq_false_iff_not, Bool.not_eq_true', Bool.not_eq_false', Bool.not_eq_true, Bool.not_eq_false, decide_true, decide_false, Bool.not_true, Bool.not_false, Bool.false_eq_true, Bool.true_eq_false, reduceCtorEq, CmpO, cmpX_eqI, cmpX_neI, cmpX_lt, cmpX_le, cmpX_gt, cmpX_ge, cmpX_eqS, cmpX_neS, cmpX_isN, cmpX_notN, cmpX_isB, PlusO, IntO, TimesO, turn_nx, turn_ct, turn_bk, turn_rt, wipeR, eq_self, not_true_eq_false, not_false_eq_true, ite_true, ite_false, if_true, if_false, ne_eq, qd0, List.map_cons, List.map_nil, List.length_cons, List.length_nil, List.replicate_succ, List.replicate_zero, List.cons_append, List.nil_append, Nat.reduceAdd, Nat.reduceSub, Nat.reduceMul, endW_rt, endW_nx, finR, isSh, IxO, seqT_shL, seqT_shT, seqT_lst, seqT_tup, atI_map, atI_c0, atI_c1, atI_c2, CE.plainC, Option.map_eq_some_iff, lenT_shL, lenT_shT, lenT_lst, lenT_tup, lenT_str, lenT_scr, lstOf_scr, tupOf_scr, T.scr.injEq, toD_scr, List.length_map, intD_int, intD_bool, max2_int, min2_int, truO_bool, truO_int, truO_list, truO_tuple, truO_none, isNone_int, isNone_none, isNone_list, isNone_tuple, isNone_str, isNone_bool, map_int_inj, qf0, qh0, SlO, Op2.C, Op2.g, Int.reduceToNat, Bk1.D, Bk2.D, atom_int, atom_bool, atom_none, atom_str, ↓uRepr_wp, ↓uRepr_pl, ↓uList_wp, ↓uList_pl, ↓uTuple_wp, ↓uTuple_pl, ↓uSorted_wp, ↓uSorted_pl, ↓uAbs_wp, ↓uAbs_pl, ↓uRev_wp, ↓uRev_pl, ↓uIsSeq_wp, ↓uIsSeq_pl, ↓bTo_wp, ↓bTo_pre, ↓bFrom_wp, ↓bFrom_pre, ↓iZip_wp, ↓bCount_wp, ↓bCount_pre, ↓bIndex_wp, ↓bIndex_pre, ↓bDivmod_wp, ↓bDivmod_pre, ↓iRange2_wp, ↓iRange3_wp, ↓bGetD_pre, ↓uListRange_wp, ↓uListRange_pl, ↓bListRange_wp, ↓bListRange_pre, ↓sRaise_wp, ↓nDict0_wp, ↓nDict0_pl, ↓iZipS_wp, ↓iZip3_wp, ↓iEnumL_wp, ↓uSumT_wp, ↓uSumT_pl, ↓tListStar_wp, ↓tListStar_pre, ↓uLen_wp, ↓uLen_pl, ↓uIsInt_wp, ↓uIsInt_pl, ↓uIsBool_wp, ↓uIsBool_pl, ↓uIsStr_wp, ↓uIsStr_pl, ↓uIsList_wp, ↓uIsList_pl, ↓uIsTuple_wp, ↓uIsTuple_pl, ↓bGetD_wp, uSumS_wp, uSumS_pl, tLaw6Z, ↓callL h6, ↓wRec_at, hg d hd, cmpX_notB1]
    exact hK' _ rfl
  · refine ⟨Nat.zero_le _, _, ⟨_, rfl, rfl⟩, ?_⟩
    rw [cmpX_neNil0]
    refine ⟨fun h => (by cases h), fun _ => ?_⟩
    simp (config := {maxSteps := 2000000}) only [↓wpS, ↓wp1, ↓wpV, ↓wpO, ↓wpT, ↓wpL, ↓wpA, ↓wpI, ↓wpTg_name, ↓andThen, ↓rdVar, ↓argVar, ↓mvVar, ↓callW, qg0, qb0, Option.map_some, Option.map_none, view_tmp, view_var, tree_tmp, tree_var, lst_tmp, lst_var, tup_tmp, tup_var, toD_sh, toD_shs, toD_shsT, toD_lnil, shs_nil', lstOf_shL, lstOf_lst, tupOf_shT, tupOf_tup, lstOf_int, tupOf_int, lstOf_tupD, tupOf_lstD, lstOf_tup, tupOf_lst, lstOf_str, tupOf_str, shs_map, shs_cons, List.set_cons_succ, List.set_cons_zero, List.getElem?_cons_zero, List.getElem?_cons_succ, Option.join_some, Option.bind_some, Option.bind_none, Option.some.injEq, Prod.mk.injEq, T.sh.injEq, T.lst.injEq, T.tup.injEq, T.dct.injEq, PyData.int.injEq, PyData.str.injEq, PyData.bool.injEq, PyData.list.injEq, PyData.tuple.injEq, List.cons.injEq, exists_eq_left', exists_eq_left, exists_and_left, exists_and_right, exists_eq', exists_eq, exists_const, and_assoc, true_and, and_true, false_and, and_false, or_false, false_or, exists_false, true_implies, false_implies, implies_true, forall_eq', forall_eq, decide_eq_true_eq, decide_eq_false_iff_not, Bool.not_eq_true', Bool.not_eq_false', Bool.not_eq_true, Bool.not_eq_false, decide_true, decide_false, Bool.not_true, Bool.not_false, Bool.false_eq_true, Bool.true_eq_false, reduceCtorEq, CmpO, cmpX_eqI, cmpX_neI, cmpX_lt, cmpX_le, cmpX_gt, cmpX_ge, cmpX_eqS, cmpX_neS, cmpX_isN, cmpX_notN, cmpX_isB, PlusO, IntO, TimesO, turn_nx, turn_ct, turn_bk, turn_rt, wipeR, eq_self, not_true_eq_false, not_false_eq_true, ite_true, ite_false, if_true, if_false, ne_eq, qd0, List.map_cons, List.map_nil, List.length_cons, List.length_nil, List.replicate_succ, List.replicate_zero, List.cons_append, List.nil_append, Nat.reduceAdd, Nat.reduceSub, Nat.reduceMul, endW_rt, endW_nx, finR, isSh, IxO, seqT_shL, seqT_shT, seqT_lst, seqT_tup, atI_map, atI_c0, atI_c1, atI_c2, CE.plainC, Option.map_eq_some_iff, lenT_shL, lenT_shT, lenT_lst, lenT_tup, lenT_str, lenT_scr, lstOf_scr, tupOf_scr, T.scr.injEq, toD_scr, List.length_map, intD_int, intD_bool, max2_int, min2_int, truO_bool, truO_int, truO_list, truO_tuple, truO_none, isNone_int, isNone_none, isNone_list, isNone_tuple, isNone_str, isNone_bool, map_int_inj, qf0, qh0, SlO, Op2.C, Op2.g, Int.reduceToNat, Bk1.D, Bk2.D, atom_int, atom_bool, atom_none, atom_str, ↓uRepr_wp, ↓uRepr_pl, ↓uList_wp, ↓uList_pl, ↓uTuple_wp, ↓uTuple_pl, ↓uSorted_wp, ↓uSorted_pl, ↓uAbs_wp, ↓uAbs_pl, ↓uRev_wp, ↓uRev_pl, ↓uIsSeq_wp, ↓uIsSeq_pl, ↓bTo_wp, ↓bTo_pre, ↓bFrom_wp, ↓bFrom_pre, ↓iZip_wp, ↓bCount_wp, ↓bCount_pre, ↓bIndex_wp, ↓bIndex_pre, ↓bDivmod_wp, ↓bDivmod_pre, ↓iRange2_wp, ↓iRange3_wp, ↓bGetD_pre, ↓uListRange_wp, ↓uListRange_pl, ↓bListRange_wp, ↓bListRange_pre, ↓sRaise_wp, ↓nDict0_wp, ↓nDict0_pl, ↓iZipS_wp, ↓iZip3_wp, ↓iEnumL_wp, ↓uSumT_wp, ↓uSumT_pl, ↓tListStar_wp, ↓tListStar_pre, ↓uLen_wp, ↓uLen_pl, ↓uIsInt_wp, ↓uIsInt_pl, ↓uIsBool_wp, ↓uIsBool_pl, ↓uIsStr_wp, ↓uIsStr_pl, ↓uIsList_wp, ↓uIsList_pl, ↓uIsTuple_wp, ↓uIsTuple_pl, ↓bGetD_wp, uSumS_wp, uSumS_pl, kLaw4Z]
    refine ⟨by omega, goLc_none (fun d hd K K' hK' => ?_) ?_⟩
    · simp (config := {maxSteps := 2000000}) only [↓wpS, ↓wp1, ↓wpV, ↓wpO, ↓wpT, ↓wpL, ↓wpA, ↓wpI, ↓wpTg_name, ↓andThen, ↓rdVar, ↓argVar, ↓mvVar, ↓callW, qg0, qb0, Option.map_some, Option.map_none, view_tmp, view_var, tree_tmp, tree_var, lst_tmp, lst_var, tup_tmp, tup_var, toD_sh, toD_shs, toD_shsT, toD_lnil, shs_nil', lstOf_shL, lstOf_lst, tupOf_shT, tupOf_tup, lstOf_int, tupOf_int, lstOf_tupD, tupOf_lstD, lstOf_tup, tupOf_lst, lstOf_str, tupOf_str, shs_map, shs_cons, List.set_cons_succ, List.set_cons_zero, List.getElem?_cons_zero, List.getElem?_cons_succ, Option.join_some, Option.bind_some, Option.bind_none, Option.some.injEq, Prod.mk.injEq, T.sh.injEq, T.lst.injEq, T.tup.injEq, T.dct.injEq, PyData.int.injEq, PyData.str.injEq, PyData.bool.injEq, PyData.list.injEq, PyData.tuple.injEq, List.cons.injEq, exists_eq_left', exists_eq_left, exists_and_left, exists_and_right, exists_eq', exists_eq, exists_const, and_assoc, true_and, and_true, false_and, and_false, or_false, false_or, exists_false, true_implies, false_implies, implies_true, forall_eq', forall_eq, decide_eq_true_eq, decide_eq_false_iff_not, Bool.not_eq_true', Bool.not_eq_false', Bool.not_eq_true, Bool.not_eq_false, decide_true, decide_false, Bool.not_true, Bool.not_false, Bool.false_eq_true, Bool.true_eq_false, reduceCtorEq, CmpO, cmpX_eqI, cmpX_neI, cmpX_lt, cmpX_le, cmpX_gt, cmpX_ge, cmpX_eqS, cmpX_neS, cmpX_isN, cmpX_notN, cmpX_isB, PlusO, IntO, TimesO, turn_nx, turn_ct, turn_bk, turn_rt, wipeR, eq_self, not_true_eq_false, not_false_eq_true, ite_true, ite_false, if_true, if_false, ne_eq, qd0, List.map_cons, List.map_nil, List.length_cons, List.length_nil, List.replicate_succ, List.replicate_zero, List.cons_append, List.nil_append, Nat.reduceAdd, Nat.reduceSub, Nat.reduceMul, endW_rt, endW_nx, finR, isSh, IxO, seqT_shL, seqT_shT, seqT_lst, seqT_tup, atI_map, atI_c0, atI_c1, atI_c2, CE.plainC, Option.map_eq_some_iff, lenT_shL, lenT_shT, lenT_lst, lenT_tup, lenT_str, lenT_scr, lstOf_scr, tupOf_scr, T.scr.injEq, toD_scr, List.length_map, intD_int, intD_bool, max2_int, min2_int, truO_bool, truO_int, truO_list, truO_tuple, truO_none, isNone_int, isNone_none, isNone_list, isNone_tuple, isNone_str, isNone_bool, map_int_inj, qf0, qh0, SlO, Op2.C, Op2.g, Int.reduceToNat, Bk1.D, Bk2.D, atom_int, atom_bool, atom_none, atom_str, ↓uRepr_wp, ↓uRepr_pl, ↓uList_wp, ↓uList_pl, ↓uTuple_wp, ↓uTuple_pl, ↓uSorted_wp, ↓uSorted_pl, ↓uAbs_wp, ↓uAbs_pl, ↓uRev_wp, ↓uRev_pl, ↓uIsSeq_wp, ↓uIsSeq_pl, ↓bTo_wp, ↓bTo_pre, ↓bFrom_wp, ↓bFrom_pre, ↓iZip_wp, ↓bCount_wp, ↓bCount_pre, ↓bIndex_wp, ↓bIndex_pre, ↓bDivmod_wp, ↓bDivmod_pre, ↓iRange2_wp, ↓iRange3_wp, ↓bGetD_pre, ↓uListRange_wp, ↓uListRange_pl, ↓bListRange_wp, ↓bListRange_pre, ↓sRaise_wp, ↓nDict0_wp, ↓nDict0_pl, ↓iZipS_wp, ↓iZip3_wp, ↓iEnumL_wp, ↓uSumT_wp, ↓uSumT_pl, ↓tListStar_wp, ↓tListStar_pre, ↓uLen_wp, ↓uLen_pl, ↓uIsInt_wp, ↓uIsInt_pl, ↓uIsBool_wp, ↓uIsBool_pl, ↓uIsStr_wp, ↓uIsStr_pl, ↓uIsList_wp, ↓uIsList_pl, ↓uIsTuple_wp, ↓uIsTuple_pl, ↓bGetD_wp, uSumS_wp, uSumS_pl, tLaw3Z, ↓callL h6, ↓wRec_at, hb d hd, cmpX_notB1]
      exact hK' _ rfl
    · refine ⟨Nat.zero_le _, _, rfl, ?_⟩
      rw [cmpX_neNil0]
      refine ⟨fun h => (by cases h), fun _ => ?_⟩
      simp (config := {maxSteps := 2000000}) only [↓wpS, ↓wp1, ↓wpV, ↓wpO, ↓wpT, ↓wpL, ↓wpA, ↓wpI, ↓wpTg_name, ↓andThen, ↓rdVar, ↓argVar, ↓mvVar, ↓callW, qg0, qb0, Option.map_some, Option.map_none, view_tmp, view_var, tree_tmp, tree_var, lst_tmp, lst_var, tup_tmp, tup_var, toD_sh, toD_shs, toD_shsT, toD_lnil, shs_nil', lstOf_shL, lstOf_lst, tupOf_shT, tupOf_tup, lstOf_int, tupOf_int, lstOf_tupD, tupOf_lstD, lstOf_tup, tupOf_lst, lstOf_str, tupOf_str, shs_map, shs_cons, List.set_cons_succ, List.set_cons_zero, List.getElem?_cons_zero, List.getElem?_cons_succ, Option.join_some, Option.bind_some, Option.bind_none, Option.some.injEq, Prod.mk.injEq, T.sh.injEq, T.lst.injEq, T.tup.injEq, T.dct.injEq, PyData.int.injEq, PyData.str.injEq, PyData.bool.injEq, PyData.list.injEq, PyData.tuple.injEq, List.cons.injEq, exists_eq_left', exists_eq_left, exists_and_left, exists_and_right, exists_eq', exists_eq, exists_const, and_assoc, true_and, and_true, false_and, and_false, or_false, false_or, exists_false, true_implies, false_implies, implies_true, forall_eq', forall_eq, decide_eq_true_eq, decide_eq_false_iff_not, Bool.not_eq_true', Bool.not_eq_false', Bool.not_eq_true, Bool.not_eq_false, decide_true, decide_false, Bool.not_true, Bool.not_false, Bool.false_eq_true, Bool.true_eq_false, reduceCtorEq, CmpO, cmpX_eqI, cmpX_neI, cmpX_lt, cmpX_le, cmpX_gt, cmpX_ge, cmpX_eqS, cmpX_neS, cmpX_isN, cmpX_notN, cmpX_isB, PlusO, IntO, TimesO, turn_nx, turn_ct, turn_bk, turn_rt, wipeR, eq_self, not_true_eq_false, not_false_eq_true, ite_true, ite_false, if_true, if_false, ne_eq, qd0, List.map_cons, List.map_nil, List.length_cons, List.length_nil, List.replicate_succ, List.replicate_zero, List.cons_append, List.nil_append, Nat.reduceAdd, Nat.reduceSub, Nat.reduceMul, endW_rt, endW_nx, finR, isSh, IxO, seqT_shL, seqT_shT, seqT_lst, seqT_tup, atI_map, atI_c0, atI_c1, atI_c2, CE.plainC, Option.map_eq_some_iff, lenT_shL, lenT_shT, lenT_lst, lenT_tup, lenT_str, lenT_scr, lstOf_scr, tupOf_scr, T.scr.injEq, toD_scr, List.length_map, intD_int, intD_bool, max2_int, min2_int, truO_bool, truO_int, truO_list, truO_tuple, truO_none, isNone_int, isNone_none, isNone_list, isNone_tuple, isNone_str, isNone_bool, map_int_inj, qf0, qh0, SlO, Op2.C, Op2.g, Int.reduceToNat, Bk1.D, Bk2.D, atom_int, atom_bool, atom_none, atom_str, ↓uRepr_wp, ↓uRepr_pl, ↓uList_wp, ↓uList_pl, ↓uTuple_wp, ↓uTuple_pl, ↓uSorted_wp, ↓uSorted_pl, ↓uAbs_wp, ↓uAbs_pl, ↓uRev_wp, ↓uRev_pl, ↓uIsSeq_wp, ↓uIsSeq_pl, ↓bTo_wp, ↓bTo_pre, ↓bFrom_wp, ↓bFrom_pre, ↓iZip_wp, ↓bCount_wp, ↓bCount_pre, ↓bIndex_wp, ↓bIndex_pre, ↓bDivmod_wp, ↓bDivmod_pre, ↓iRange2_wp, ↓iRange3_wp, ↓bGetD_pre, ↓uListRange_wp, ↓uListRange_pl, ↓bListRange_wp, ↓bListRange_pre, ↓sRaise_wp, ↓nDict0_wp, ↓nDict0_pl, ↓iZipS_wp, ↓iZip3_wp, ↓iEnumL_wp, ↓uSumT_wp, ↓uSumT_pl, ↓tListStar_wp, ↓tListStar_pre, ↓uLen_wp, ↓uLen_pl, ↓uIsInt_wp, ↓uIsInt_pl, ↓uIsBool_wp, ↓uIsBool_pl, ↓uIsStr_wp, ↓uIsStr_pl, ↓uIsList_wp, ↓uIsList_pl, ↓uIsTuple_wp, ↓uIsTuple_pl, ↓bGetD_wp, uSumS_wp, uSumS_pl, kLaw1Z, toD_lst, toDs_sh, toDs_cons, toDs_nil]
      exact ⟨by omega, s2, s4, s1, hR⟩
end Oak
namespace Oak
open PySem PySem.Spec PyProof.Rows L2
open Tee (CmpD tyName zipD)
theorem vcLawZ (Γ : Gam) (h1 : Γ.fn "_law_reel" = some wReel) (h2 : Γ.fn "_law_draw" = some wDrawR) (h3 : Γ.fn "_law_record" = some wRecR) (h4 : Γ.fn "_law_dressed" = some (wDressedR 3)) (h5 : Γ.fn "_law_bad" = some wBadR) (h6 : Γ.fn "is_record" = some wRec) (as : List T) (Q : T → List T → Prop) (E : Value → XF → List T → Prop) (h : wLaw as Q E) : wpS Γ irLawZ (qd0 ["script", "reel", "k", "runs", "turn", "whole", "good", "bad", "kept", "value"] as) (endW as Q) := by
  obtain ⟨ns, rfl, q⟩ := h
  have hsz := sizeLine_eq
  obtain ⟨hns, q⟩ := q
  have hc30 : CPow 10 30 := ⟨by decide, by decide, by decide⟩
  simp (config := {maxSteps := 2000000}) only [↓wpS, ↓wp1, ↓wpV, ↓wpO, ↓wpT, ↓wpL, ↓wpA, ↓wpI, ↓wpTg_name, ↓andThen, ↓rdVar, ↓argVar, ↓mvVar, ↓callW, qg0, qb0, Option.map_some, Option.map_none, view_tmp, view_var, tree_tmp, tree_var, lst_tmp, lst_var, tup_tmp, tup_var, toD_sh, toD_shs, toD_shsT, toD_lnil, shs_nil', lstOf_shL, lstOf_lst, tupOf_shT, tupOf_tup, lstOf_int, tupOf_int, lstOf_tupD, tupOf_lstD, lstOf_tup, tupOf_lst, lstOf_str, tupOf_str, shs_map, shs_cons, List.set_cons_succ, List.set_cons_zero, List.getElem?_cons_zero, List.getElem?_cons_succ, Option.join_some, Option.bind_some, Option.bind_none, Option.some.injEq, Prod.mk.injEq, T.sh.injEq, T.lst.injEq, T.tup.injEq, T.dct.injEq, PyData.int.injEq, PyData.str.injEq, PyData.bool.injEq, PyData.list.injEq, PyData.tuple.injEq, List.cons.injEq, exists_eq_left', exists_eq_left, exists_and_left, exists_and_right, exists_eq', exists_eq, exists_const, and_assoc, true_and, and_true, false_and, and_false, or_false, false_or, exists_false, true_implies, false_implies, implies_true, forall_eq', forall_eq, decide_eq_true_eq, decide_eq_false_iff_not, Bool.not_eq_true', Bool.not_eq_false', Bool.not_eq_true, Bool.not_eq_false, decide_true, decide_false, Bool.not_true, Bool.not_false, Bool.false_eq_true, Bool.true_eq_false, reduceCtorEq, CmpO, cmpX_eqI, cmpX_neI, cmpX_lt, cmpX_le, cmpX_gt, cmpX_ge, cmpX_eqS, cmpX_neS, cmpX_isN, cmpX_notN, cmpX_isB, PlusO, IntO, TimesO, turn_nx, turn_ct, turn_bk, turn_rt, wipeR, eq_self, not_true_eq_false, not_false_eq_true, ite_true, ite_false, if_true, if_false, ne_eq, qd0, List.map_cons, List.map_nil, List.length_cons, List.length_nil, List.replicate_succ, List.replicate_zero, List.cons_append, List.nil_append, Nat.reduceAdd, Nat.reduceSub, Nat.reduceMul, endW_rt, endW_nx, finR, isSh, IxO, seqT_shL, seqT_shT, seqT_lst, seqT_tup, atI_map, atI_c0, atI_c1, atI_c2, CE.plainC, Option.map_eq_some_iff, lenT_shL, lenT_shT, lenT_lst, lenT_tup, lenT_str, lenT_scr, lstOf_scr, tupOf_scr, T.scr.injEq, toD_scr, List.length_map, intD_int, intD_bool, max2_int, min2_int, truO_bool, truO_int, truO_list, truO_tuple, truO_none, isNone_int, isNone_none, isNone_list, isNone_tuple, isNone_str, isNone_bool, map_int_inj, qf0, qh0, SlO, Op2.C, Op2.g, Int.reduceToNat, Bk1.D, Bk2.D, atom_int, atom_bool, atom_none, atom_str, ↓uRepr_wp, ↓uRepr_pl, ↓uList_wp, ↓uList_pl, ↓uTuple_wp, ↓uTuple_pl, ↓uSorted_wp, ↓uSorted_pl, ↓uAbs_wp, ↓uAbs_pl, ↓uRev_wp, ↓uRev_pl, ↓uIsSeq_wp, ↓uIsSeq_pl, ↓bTo_wp, ↓bTo_pre, ↓bFrom_wp, ↓bFrom_pre, ↓iZip_wp, ↓bCount_wp, ↓bCount_pre, ↓bIndex_wp, ↓bIndex_pre, ↓bDivmod_wp, ↓bDivmod_pre, ↓iRange2_wp, ↓iRange3_wp, ↓bGetD_pre, ↓uListRange_wp, ↓uListRange_pl, ↓bListRange_wp, ↓bListRange_pre, ↓sRaise_wp, ↓nDict0_wp, ↓nDict0_pl, ↓iZipS_wp, ↓iZip3_wp, ↓iEnumL_wp, ↓uSumT_wp, ↓uSumT_pl, ↓tListStar_wp, ↓tListStar_pre, ↓uLen_wp, ↓uLen_pl, ↓uIsInt_wp, ↓uIsInt_pl, ↓uIsBool_wp, ↓uIsBool_pl, ↓uIsStr_wp, ↓uIsStr_pl, ↓uIsList_wp, ↓uIsList_pl, ↓uIsTuple_wp, ↓uIsTuple_pl, ↓bGetD_wp, uSumS_wp, uSumS_pl, irLawZ, ↓callL h1, ↓wReel]
  refine fun p hp => ?_
  have hle : (2 + if (4 : Int) < (ns.length : Int) then 4 else (ns.length : Int)) ≤ 6 := by split <;> omega
  have hge : 2 ≤ (2 + if (4 : Int) < (ns.length : Int) then 4 else (ns.length : Int)) := by split <;> omega
  refine ⟨by omega, by omega, ?_⟩
  refine goFor_upTo (fun i ρ => ∃ (p : Rl) (x2 x3 x4 x5 x6 x7 x8 x9 : Option T), RlOk p ∧ ρ = [some (.scr ns), some (.lst (rlL p)), x2, x3, x4, x5, x6, x7, x8, x9])
        (fun i ρ hi h K hK => ?_) (fun ρ h => ?_) ⟨p, none, none, none, none, none, none, none, none, hp, rfl⟩
  · obtain ⟨p, x2, x3, x4, x5, x6, x7, x8, x9, hp, rfl⟩ := h
    simp (config := {maxSteps := 2000000}) only [↓wpS, ↓wp1, ↓wpV, ↓wpO, ↓wpT, ↓wpL, ↓wpA, ↓wpI, ↓wpTg_name, ↓andThen, ↓rdVar, ↓argVar, ↓mvVar, ↓callW, qg0, qb0, Option.map_some, Option.map_none, view_tmp, view_var, tree_tmp, tree_var, lst_tmp, lst_var, tup_tmp, tup_var, toD_sh, toD_shs, toD_shsT, toD_lnil, shs_nil', lstOf_shL, lstOf_lst, tupOf_shT, tupOf_tup, lstOf_int, tupOf_int, lstOf_tupD, tupOf_lstD, lstOf_tup, tupOf_lst, lstOf_str, tupOf_str, shs_map, shs_cons, List.set_cons_succ, List.set_cons_zero, List.getElem?_cons_zero, List.getElem?_cons_succ, Option.join_some, Option.bind_some, Option.bind_none, Option.some.injEq, Prod.mk.injEq, T.sh.injEq, T.lst.injEq, T.tup.injEq, T.dct.injEq, PyData.int.injEq, PyData.str.injEq, PyData.bool.injEq, PyData.list.injEq, PyData.tuple.injEq, List.cons.injEq, exists_eq_left', exists_eq_left, exists_and_left, exists_and_right, exists_eq', exists_eq, exists_const, and_assoc, true_and, and_true, false_and, and_false, or_false, false_or, exists_false, true_implies, false_implies, implies_true, forall_eq', forall_eq, decide_eq_true_eq, decide_eq_false_iff_not, Bool.not_eq_true', Bool.not_eq_false', Bool.not_eq_true, Bool.not_eq_false, decide_true, decide_false, Bool.not_true, Bool.not_false, Bool.false_eq_true, Bool.true_eq_false, reduceCtorEq, CmpO, cmpX_eqI, cmpX_neI, cmpX_lt, cmpX_le, cmpX_gt, cmpX_ge, cmpX_eqS, cmpX_neS, cmpX_isN, cmpX_notN, cmpX_isB, PlusO, IntO, TimesO, turn_nx, turn_ct, turn_bk, turn_rt, wipeR, eq_self, not_true_eq_false, not_false_eq_true, ite_true, ite_false, if_true, if_false, ne_eq, qd0, List.map_cons, List.map_nil, List.length_cons, List.length_nil, List.replicate_succ, List.replicate_zero, List.cons_append, List.nil_append, Nat.reduceAdd, Nat.reduceSub, Nat.reduceMul, endW_rt, endW_nx, finR, isSh, IxO, seqT_shL, seqT_shT, seqT_lst, seqT_tup, atI_map, atI_c0, atI_c1, atI_c2, CE.plainC, Option.map_eq_some_iff, lenT_shL, lenT_shT, lenT_lst, lenT_tup, lenT_str, lenT_scr, lstOf_scr, tupOf_scr, T.scr.injEq, toD_scr, List.length_map, intD_int, intD_bool, max2_int, min2_int, truO_bool, truO_int, truO_list, truO_tuple, truO_none, isNone_int, isNone_none, isNone_list, isNone_tuple, isNone_str, isNone_bool, map_int_inj, qf0, qh0, SlO, Op2.C, Op2.g, Int.reduceToNat, Bk1.D, Bk2.D, atom_int, atom_bool, atom_none, atom_str, ↓uRepr_wp, ↓uRepr_pl, ↓uList_wp, ↓uList_pl, ↓uTuple_wp, ↓uTuple_pl, ↓uSorted_wp, ↓uSorted_pl, ↓uAbs_wp, ↓uAbs_pl, ↓uRev_wp, ↓uRev_pl, ↓uIsSeq_wp, ↓uIsSeq_pl, ↓bTo_wp, ↓bTo_pre, ↓bFrom_wp, ↓bFrom_pre, ↓iZip_wp, ↓bCount_wp, ↓bCount_pre, ↓bIndex_wp, ↓bIndex_pre, ↓bDivmod_wp, ↓bDivmod_pre, ↓iRange2_wp, ↓iRange3_wp, ↓bGetD_pre, ↓uListRange_wp, ↓uListRange_pl, ↓bListRange_wp, ↓bListRange_pre, ↓sRaise_wp, ↓nDict0_wp, ↓nDict0_pl, ↓iZipS_wp, ↓iZip3_wp, ↓iEnumL_wp, ↓uSumT_wp, ↓uSumT_pl, ↓tListStar_wp, ↓tListStar_pre, ↓uLen_wp, ↓uLen_pl, ↓uIsInt_wp, ↓uIsInt_pl, ↓uIsBool_wp, ↓uIsBool_pl, ↓uIsStr_wp, ↓uIsStr_pl, ↓uIsList_wp, ↓uIsList_pl, ↓uIsTuple_wp, ↓uIsTuple_pl, ↓bGetD_wp, uSumS_wp, uSumS_pl, lLaw9Z, ↓callL h2, ↓callL h3, ↓wDrawR_at]
    refine ⟨by omega, hp, by decide, by decide, fun v p1 hp1 v0 v1 => ?_⟩
    obtain ⟨m, hm, m0, m1⟩ : ∃ m : Int, atI [T.sh (PyData.int 9), T.sh (PyData.int 399)] v = some (.sh (.int m)) ∧ 0 ≤ m ∧ m ≤ 399 := by
      rcases (by omega : v = 0 ∨ v = 1) with rfl | rfl
      · exact ⟨9, rfl, by decide, by decide⟩
      · exact ⟨399, rfl, by decide, by decide⟩
    refine ⟨_, hm, hc30, by omega, hp1, by decide, by decide, fun w p2 hp2 w0 w1 => ?_⟩
    obtain ⟨l, hl, l0, l1⟩ : ∃ l : Int, atI [T.sh (PyData.int 3), T.sh (PyData.int (10 ^ 30))] w = some (.sh (.int l)) ∧ 1 ≤ l ∧ l ≤ 10 ^ 30 := by
      rcases (by omega : w = 0 ∨ w = 1) with rfl | rfl
      · exact ⟨3, rfl, by decide, by decide⟩
      · exact ⟨10 ^ 30, rfl, by decide, by decide⟩
    refine ⟨_, hl, ?_⟩
    rw [wRecR_at]
    refine ⟨hp2, ⟨m0, m1⟩, ⟨l0, l1⟩, fun p3 rs hp3 hr ha hl3 => ?_⟩
    simp (config := {maxSteps := 2000000}) only [↓wpS, ↓wp1, ↓wpV, ↓wpO, ↓wpT, ↓wpL, ↓wpA, ↓wpI, ↓wpTg_name, ↓andThen, ↓rdVar, ↓argVar, ↓mvVar, ↓callW, qg0, qb0, Option.map_some, Option.map_none, view_tmp, view_var, tree_tmp, tree_var, lst_tmp, lst_var, tup_tmp, tup_var, toD_sh, toD_shs, toD_shsT, toD_lnil, shs_nil', lstOf_shL, lstOf_lst, tupOf_shT, tupOf_tup, lstOf_int, tupOf_int, lstOf_tupD, tupOf_lstD, lstOf_tup, tupOf_lst, lstOf_str, tupOf_str, shs_map, shs_cons, List.set_cons_succ, List.set_cons_zero, List.getElem?_cons_zero, List.getElem?_cons_succ, Option.join_some, Option.bind_some, Option.bind_none, Option.some.injEq, Prod.mk.injEq, T.sh.injEq, T.lst.injEq, T.tup.injEq, T.dct.injEq, PyData.int.injEq, PyData.str.injEq, PyData.bool.injEq, PyData.list.injEq, PyData.tuple.injEq, List.cons.injEq, exists_eq_left', exists_eq_left, exists_and_left, exists_and_right, exists_eq', exists_eq, exists_const, and_assoc, true_and, and_true, false_and, and_false, or_false, false_or, exists_false, true_implies, false_implies, implies_true, forall_eq', forall_eq, decide_eq_true_eq, decide_eq_false_iff_not, Bool.not_eq_true', Bool.not_eq_false', Bool.not_eq_true, Bool.not_eq_false, decide_true, decide_false, Bool.not_true, Bool.not_false, Bool.false_eq_true, Bool.true_eq_false, reduceCtorEq, CmpO, cmpX_eqI, cmpX_neI, cmpX_lt, cmpX_le, cmpX_gt, cmpX_ge, cmpX_eqS, cmpX_neS, cmpX_isN, cmpX_notN, cmpX_isB, PlusO, IntO, TimesO, turn_nx, turn_ct, turn_bk, turn_rt, wipeR, eq_self, not_true_eq_false, not_false_eq_true, ite_true, ite_false, if_true, if_false, ne_eq, qd0, List.map_cons, List.map_nil, List.length_cons, List.length_nil, List.replicate_succ, List.replicate_zero, List.cons_append, List.nil_append, Nat.reduceAdd, Nat.reduceSub, Nat.reduceMul, endW_rt, endW_nx, finR, isSh, IxO, seqT_shL, seqT_shT, seqT_lst, seqT_tup, atI_map, atI_c0, atI_c1, atI_c2, CE.plainC, Option.map_eq_some_iff, lenT_shL, lenT_shT, lenT_lst, lenT_tup, lenT_str, lenT_scr, lstOf_scr, tupOf_scr, T.scr.injEq, toD_scr, List.length_map, intD_int, intD_bool, max2_int, min2_int, truO_bool, truO_int, truO_list, truO_tuple, truO_none, isNone_int, isNone_none, isNone_list, isNone_tuple, isNone_str, isNone_bool, map_int_inj, qf0, qh0, SlO, Op2.C, Op2.g, Int.reduceToNat, Bk1.D, Bk2.D, atom_int, atom_bool, atom_none, atom_str, ↓uRepr_wp, ↓uRepr_pl, ↓uList_wp, ↓uList_pl, ↓uTuple_wp, ↓uTuple_pl, ↓uSorted_wp, ↓uSorted_pl, ↓uAbs_wp, ↓uAbs_pl, ↓uRev_wp, ↓uRev_pl, ↓uIsSeq_wp, ↓uIsSeq_pl, ↓bTo_wp, ↓bTo_pre, ↓bFrom_wp, ↓bFrom_pre, ↓iZip_wp, ↓bCount_wp, ↓bCount_pre, ↓bIndex_wp, ↓bIndex_pre, ↓bDivmod_wp, ↓bDivmod_pre, ↓iRange2_wp, ↓iRange3_wp, ↓bGetD_pre, ↓uListRange_wp, ↓uListRange_pl, ↓bListRange_wp, ↓bListRange_pre, ↓sRaise_wp, ↓nDict0_wp, ↓nDict0_pl, ↓iZipS_wp, ↓iZip3_wp, ↓iEnumL_wp, ↓uSumT_wp, ↓uSumT_pl, ↓tListStar_wp, ↓tListStar_pre, ↓uLen_wp, ↓uLen_pl, ↓uIsInt_wp, ↓uIsInt_pl, ↓uIsBool_wp, ↓uIsBool_pl, ↓uIsStr_wp, ↓uIsStr_pl, ↓uIsList_wp, ↓uIsList_pl, ↓uIsTuple_wp, ↓uIsTuple_pl, ↓bGetD_wp, uSumS_wp, uSumS_pl]
    refine ⟨by decide, by decide, by rw [Tee.upTo_len]; decide, ?_⟩
    rw [show Tee.upTo 400 = (List.range 400).map fun i : Nat => PyData.int (i : Int) from rfl]
    refine goLc_mapM (fun i : Nat => PyData.int (i : Int)) (fun i : Nat => .sh (t2 (wh i))) (fun i hi K hK => ?_) ?_
    · simp (config := {maxSteps := 2000000}) only [↓wpS, ↓wp1, ↓wpV, ↓wpO, ↓wpT, ↓wpL, ↓wpA, ↓wpI, ↓wpTg_name, ↓andThen, ↓rdVar, ↓argVar, ↓mvVar, ↓callW, qg0, qb0, Option.map_some, Option.map_none, view_tmp, view_var, tree_tmp, tree_var, lst_tmp, lst_var, tup_tmp, tup_var, toD_sh, toD_shs, toD_shsT, toD_lnil, shs_nil', lstOf_shL, lstOf_lst, tupOf_shT, tupOf_tup, lstOf_int, tupOf_int, lstOf_tupD, tupOf_lstD, lstOf_tup, tupOf_lst, lstOf_str, tupOf_str, shs_map, shs_cons, List.set_cons_succ, List.set_cons_zero, List.getElem?_cons_zero, List.getElem?_cons_succ, Option.join_some, Option.bind_some, Option.bind_none, Option.some.injEq, Prod.mk.injEq, T.sh.injEq, T.lst.injEq, T.tup.injEq, T.dct.injEq, PyData.int.injEq, PyData.str.injEq, PyData.bool.injEq, PyData.list.injEq, PyData.tuple.injEq, List.cons.injEq, exists_eq_left', exists_eq_left, exists_and_left, exists_and_right, exists_eq', exists_eq, exists_const, and_assoc, true_and, and_true, false_and, and_false, or_false, false_or, exists_false, true_implies, false_implies, implies_true, forall_eq', forall_eq, decide_eq_true_eq, decide_eq_false_iff_not, Bool.not_eq_true', Bool.not_eq_false', Bool.not_eq_true, Bool.not_eq_false, decide_true, decide_false, Bool.not_true, Bool.not_false, Bool.false_eq_true, Bool.true_eq_false, reduceCtorEq, CmpO, cmpX_eqI, cmpX_neI, cmpX_lt, cmpX_le, cmpX_gt, cmpX_ge, cmpX_eqS, cmpX_neS, cmpX_isN, cmpX_notN, cmpX_isB, PlusO, IntO, TimesO, turn_nx, turn_ct, turn_bk, turn_rt, wipeR, eq_self, not_true_eq_false, not_false_eq_true, ite_true, ite_false, if_true, if_false, ne_eq, qd0, List.map_cons, List.map_nil, List.length_cons, List.length_nil, List.replicate_succ, List.replicate_zero, List.cons_append, List.nil_append, Nat.reduceAdd, Nat.reduceSub, Nat.reduceMul, endW_rt, endW_nx, finR, isSh, IxO, seqT_shL, seqT_shT, seqT_lst, seqT_tup, atI_map, atI_c0, atI_c1, atI_c2, CE.plainC, Option.map_eq_some_iff, lenT_shL, lenT_shT, lenT_lst, lenT_tup, lenT_str, lenT_scr, lstOf_scr, tupOf_scr, T.scr.injEq, toD_scr, List.length_map, intD_int, intD_bool, max2_int, min2_int, truO_bool, truO_int, truO_list, truO_tuple, truO_none, isNone_int, isNone_none, isNone_list, isNone_tuple, isNone_str, isNone_bool, map_int_inj, qf0, qh0, SlO, Op2.C, Op2.g, Int.reduceToNat, Bk1.D, Bk2.D, atom_int, atom_bool, atom_none, atom_str, ↓uRepr_wp, ↓uRepr_pl, ↓uList_wp, ↓uList_pl, ↓uTuple_wp, ↓uTuple_pl, ↓uSorted_wp, ↓uSorted_pl, ↓uAbs_wp, ↓uAbs_pl, ↓uRev_wp, ↓uRev_pl, ↓uIsSeq_wp, ↓uIsSeq_pl, ↓bTo_wp, ↓bTo_pre, ↓bFrom_wp, ↓bFrom_pre, ↓iZip_wp, ↓bCount_wp, ↓bCount_pre, ↓bIndex_wp, ↓bIndex_pre, ↓bDivmod_wp, ↓bDivmod_pre, ↓iRange2_wp, ↓iRange3_wp, ↓bGetD_pre, ↓uListRange_wp, ↓uListRange_pl, ↓bListRange_wp, ↓bListRange_pre, ↓sRaise_wp, ↓nDict0_wp, ↓nDict0_pl, ↓iZipS_wp, ↓iZip3_wp, ↓iEnumL_wp, ↓uSumT_wp, ↓uSumT_pl, ↓tListStar_wp, ↓tListStar_pre, ↓uLen_wp, ↓uLen_pl, ↓uIsInt_wp, ↓uIsInt_pl, ↓uIsBool_wp, ↓uIsBool_pl, ↓uIsStr_wp, ↓uIsStr_pl, ↓uIsList_wp, ↓uIsList_pl, ↓uIsTuple_wp, ↓uIsTuple_pl, ↓bGetD_wp, uSumS_wp, uSumS_pl, eLaw8Z, toD_tup, toDs_cons, toDs_nil]
      exact ⟨by decide, hc30, by omega, hK _ rfl⟩
    · rw [show ((List.range 400).map fun i : Nat => T.sh (t2 (wh i))) = (whole.map t2).map T.sh by unfold whole; rw [List.map_map, List.map_map]; rfl]
      have w1 := whole_rec
      have w3 := fit_t2s whole_ok
      generalize whole.map t2 = wd at *
      have hrec : recB (.list (rs.map t2)) = true := recB_of (enc_t2s rs) hr ha
      have hrf := fit_t2s hr
      simp (config := {maxSteps := 2000000}) only [↓wpS, ↓wp1, ↓wpV, ↓wpO, ↓wpT, ↓wpL, ↓wpA, ↓wpI, ↓wpTg_name, ↓andThen, ↓rdVar, ↓argVar, ↓mvVar, ↓callW, qg0, qb0, Option.map_some, Option.map_none, view_tmp, view_var, tree_tmp, tree_var, lst_tmp, lst_var, tup_tmp, tup_var, toD_sh, toD_shs, toD_shsT, toD_lnil, shs_nil', lstOf_shL, lstOf_lst, tupOf_shT, tupOf_tup, lstOf_int, tupOf_int, lstOf_tupD, tupOf_lstD, lstOf_tup, tupOf_lst, lstOf_str, tupOf_str, shs_map, shs_cons, List.set_cons_succ, List.set_cons_zero, List.getElem?_cons_zero, List.getElem?_cons_succ, Option.join_some, Option.bind_some, Option.bind_none, Option.some.injEq, Prod.mk.injEq, T.sh.injEq, T.lst.injEq, T.tup.injEq, T.dct.injEq, PyData.int.injEq, PyData.str.injEq, PyData.bool.injEq, PyData.list.injEq, PyData.tuple.injEq, List.cons.injEq, exists_eq_left', exists_eq_left, exists_and_left, exists_and_right, exists_eq', exists_eq, exists_const, and_assoc, true_and, and_true, false_and, and_false, or_false, false_or, exists_false, true_implies, false_implies, implies_true, forall_eq', forall_eq, decide_eq_true_eq, decide_eq_false_iff_not, Bool.not_eq_true', Bool.not_eq_false', Bool.not_eq_true, Bool.not_eq_false, decide_true, decide_false, Bool.not_true, Bool.not_false, Bool.false_eq_true, Bool.true_eq_false, reduceCtorEq, CmpO, cmpX_eqI, cmpX_neI, cmpX_lt, cmpX_le, cmpX_gt, cmpX_ge, cmpX_eqS, cmpX_neS, cmpX_isN, cmpX_notN, cmpX_isB, PlusO, IntO, TimesO, turn_nx, turn_ct, turn_bk, turn_rt, wipeR, eq_self, not_true_eq_false, not_false_eq_true, ite_true, ite_false, if_true, if_false, ne_eq, qd0, List.map_cons, List.map_nil, List.length_cons, List.length_nil, List.replicate_succ, List.replicate_zero, List.cons_append, List.nil_append, Nat.reduceAdd, Nat.reduceSub, Nat.reduceMul, endW_rt, endW_nx, finR, isSh, IxO, seqT_shL, seqT_shT, seqT_lst, seqT_tup, atI_map, atI_c0, atI_c1, atI_c2, CE.plainC, Option.map_eq_some_iff, lenT_shL, lenT_shT, lenT_lst, lenT_tup, lenT_str, lenT_scr, lstOf_scr, tupOf_scr, T.scr.injEq, toD_scr, List.length_map, intD_int, intD_bool, max2_int, min2_int, truO_bool, truO_int, truO_list, truO_tuple, truO_none, isNone_int, isNone_none, isNone_list, isNone_tuple, isNone_str, isNone_bool, map_int_inj, qf0, qh0, SlO, Op2.C, Op2.g, Int.reduceToNat, Bk1.D, Bk2.D, atom_int, atom_bool, atom_none, atom_str, ↓uRepr_wp, ↓uRepr_pl, ↓uList_wp, ↓uList_pl, ↓uTuple_wp, ↓uTuple_pl, ↓uSorted_wp, ↓uSorted_pl, ↓uAbs_wp, ↓uAbs_pl, ↓uRev_wp, ↓uRev_pl, ↓uIsSeq_wp, ↓uIsSeq_pl, ↓bTo_wp, ↓bTo_pre, ↓bFrom_wp, ↓bFrom_pre, ↓iZip_wp, ↓bCount_wp, ↓bCount_pre, ↓bIndex_wp, ↓bIndex_pre, ↓bDivmod_wp, ↓bDivmod_pre, ↓iRange2_wp, ↓iRange3_wp, ↓bGetD_pre, ↓uListRange_wp, ↓uListRange_pl, ↓bListRange_wp, ↓bListRange_pre, ↓sRaise_wp, ↓nDict0_wp, ↓nDict0_pl, ↓iZipS_wp, ↓iZip3_wp, ↓iEnumL_wp, ↓uSumT_wp, ↓uSumT_pl, ↓tListStar_wp, ↓tListStar_pre, ↓uLen_wp, ↓uLen_pl, ↓uIsInt_wp, ↓uIsInt_pl, ↓uIsBool_wp, ↓uIsBool_pl, ↓uIsStr_wp, ↓uIsStr_pl, ↓uIsList_wp, ↓uIsList_pl, ↓uIsTuple_wp, ↓uIsTuple_pl, ↓bGetD_wp, uSumS_wp, uSumS_pl, kLaw7Z, ↓callL h4, ↓callL h5, ↓wDressedR_at, ↓wBadR_at, toD_tup, toD_lst, toDs_sh, toDs_cons, toDs_nil]
      refine ⟨hp3, dok_t2s (by omega), fun p4 r hp4 hdr => ?_⟩
      have hrr : recB r = true := recB_of (dr_enc (n := 0) hdr) hr ha
      have hrfr := Fit.dr hrf hdr
      refine ⟨by omega, by omega, by omega, by omega, by omega, hp4, hr, by omega, fun p5 bs hp5 hbad hbl hbf => ?_⟩
      have f0 : Tee.Fit (.list []) 10 2 := fit_of (by decide +kernel)
      have f1 : Tee.Fit (.tuple []) 10 2 := fit_of (by decide +kernel)
      have f2 : Tee.Fit (.list [.list [.int 0, .int 1]]) 200 2 := fit_of (by decide +kernel)
      have fG := Tee.Fit.list (Tee.FitA.cons hrf (Tee.FitA.cons hrfr (Tee.FitA.cons f0 (Tee.FitA.cons f1 (Tee.FitA.cons w3 (Tee.FitA.cons f2 Tee.FitA.nil))))))
      have fB := Tee.Fit.list hbf
      have fA := Tee.Fit.list (Tee.FitA.cons (fG.mono (m := 200000) (j := 4)) (Tee.FitA.cons (fB.mono (m := 3000010) (j := 4)) Tee.FitA.nil))
      have hgood : ∀ d ∈ [PyData.list (rs.map t2), r, .list [], .tuple [], .list wd, .list [.list [.int 0, .int 1]]], recB d = true := fun d hd => by
        simp only [List.mem_cons, List.not_mem_nil, or_false] at hd
        rcases hd with rfl | rfl | rfl | rfl | rfl | rfl
        · exact hrec
        · exact hrr
        · rfl
        · rfl
        · exact w1
        · decide +kernel
      have hgl : [PyData.list (rs.map t2), r, .list [], .tuple [], .list wd, .list [.list [.int 0, .int 1]]].length = 6 := rfl
      refine ⟨by omega, ?_⟩
      obtain ⟨s1, s2⟩ := Tee.shown_le _ fA.ok
      have s3 := fA.sz
      have s4 := fA.dp
      generalize [PyData.list (rs.map t2), r, .list [], .tuple [], .list wd, .list [.list [.int 0, .int 1]]] = G at *
      refine ⟨s2, by omega, by omega, by omega, ?_⟩
      exact lawTail h6 hgood hbad (by omega) hbl (by omega) s2 (by omega) _ _ _ _ _ _ _ (hK _ ⟨p5, _, _, _, _, _, _, _, _, hp5, rfl⟩)
  · obtain ⟨p, x2, x3, x4, x5, x6, x7, x8, x9, hp, rfl⟩ := h
    have b1 : recB (.list [.tuple [.int 1, .int 1], .tuple [.int 1, .int 1]]) = false := by decide +kernel
    have b2 : recB (.list [.tuple [.int 1, .int 1], .tuple [.int 0, .int 1], .tuple [.int 1, .int 1]]) = true := by decide +kernel
    simp (config := {maxSteps := 2000000}) only [↓wpS, ↓wp1, ↓wpV, ↓wpO, ↓wpT, ↓wpL, ↓wpA, ↓wpI, ↓wpTg_name, ↓andThen, ↓rdVar, ↓argVar, ↓mvVar, ↓callW, qg0, qb0, Option.map_some, Option.map_none, view_tmp, view_var, tree_tmp, tree_var, lst_tmp, lst_var, tup_tmp, tup_var, toD_sh, toD_shs, toD_shsT, toD_lnil, shs_nil', lstOf_shL, lstOf_lst, tupOf_shT, tupOf_tup, lstOf_int, tupOf_int, lstOf_tupD, tupOf_lstD, lstOf_tup, tupOf_lst, lstOf_str, tupOf_str, shs_map, shs_cons, List.set_cons_succ, List.set_cons_zero, List.getElem?_cons_zero, List.getElem?_cons_succ, Option.join_some, Option.bind_some, Option.bind_none, Option.some.injEq, Prod.mk.injEq, T.sh.injEq, T.lst.injEq, T.tup.injEq, T.dct.injEq, PyData.int.injEq, PyData.str.injEq, PyData.bool.injEq, PyData.list.injEq, PyData.tuple.injEq, List.cons.injEq, exists_eq_left', exists_eq_left, exists_and_left, exists_and_right, exists_eq', exists_eq, exists_const, and_assoc, true_and, and_true, false_and, and_false, or_false, false_or, exists_false, true_implies, false_implies, implies_true, forall_eq', forall_eq, decide_eq_true_eq, decide_eq_false_iff_not, Bool.not_eq_true', Bool.not_eq_false', Bool.not_eq_true, Bool.not_eq_false, decide_true, decide_false, Bool.not_true, Bool.not_false, Bool.false_eq_true, Bool.true_eq_false, reduceCtorEq, CmpO, cmpX_eqI, cmpX_neI, cmpX_lt, cmpX_le, cmpX_gt, cmpX_ge, cmpX_eqS, cmpX_neS, cmpX_isN, cmpX_notN, cmpX_isB, PlusO, IntO, TimesO, turn_nx, turn_ct, turn_bk, turn_rt, wipeR, eq_self, not_true_eq_false, not_false_eq_true, ite_true, ite_false, if_true, if_false, ne_eq, qd0, List.map_cons, List.map_nil, List.length_cons, List.length_nil, List.replicate_succ, List.replicate_zero, List.cons_append, List.nil_append, Nat.reduceAdd, Nat.reduceSub, Nat.reduceMul, endW_rt, endW_nx, finR, isSh, IxO, seqT_shL, seqT_shT, seqT_lst, seqT_tup, atI_map, atI_c0, atI_c1, atI_c2, CE.plainC, Option.map_eq_some_iff, lenT_shL, lenT_shT, lenT_lst, lenT_tup, lenT_str, lenT_scr, lstOf_scr, tupOf_scr, T.scr.injEq, toD_scr, List.length_map, intD_int, intD_bool, max2_int, min2_int, truO_bool, truO_int, truO_list, truO_tuple, truO_none, isNone_int, isNone_none, isNone_list, isNone_tuple, isNone_str, isNone_bool, map_int_inj, qf0, qh0, SlO, Op2.C, Op2.g, Int.reduceToNat, Bk1.D, Bk2.D, atom_int, atom_bool, atom_none, atom_str, ↓uRepr_wp, ↓uRepr_pl, ↓uList_wp, ↓uList_pl, ↓uTuple_wp, ↓uTuple_pl, ↓uSorted_wp, ↓uSorted_pl, ↓uAbs_wp, ↓uAbs_pl, ↓uRev_wp, ↓uRev_pl, ↓uIsSeq_wp, ↓uIsSeq_pl, ↓bTo_wp, ↓bTo_pre, ↓bFrom_wp, ↓bFrom_pre, ↓iZip_wp, ↓bCount_wp, ↓bCount_pre, ↓bIndex_wp, ↓bIndex_pre, ↓bDivmod_wp, ↓bDivmod_pre, ↓iRange2_wp, ↓iRange3_wp, ↓bGetD_pre, ↓uListRange_wp, ↓uListRange_pl, ↓bListRange_wp, ↓bListRange_pre, ↓sRaise_wp, ↓nDict0_wp, ↓nDict0_pl, ↓iZipS_wp, ↓iZip3_wp, ↓iEnumL_wp, ↓uSumT_wp, ↓uSumT_pl, ↓tListStar_wp, ↓tListStar_pre, ↓uLen_wp, ↓uLen_pl, ↓uIsInt_wp, ↓uIsInt_pl, ↓uIsBool_wp, ↓uIsBool_pl, ↓uIsStr_wp, ↓uIsStr_pl, ↓uIsList_wp, ↓uIsList_pl, ↓uIsTuple_wp, ↓uIsTuple_pl, ↓bGetD_wp, uSumS_wp, uSumS_pl, kLaw0Z, ↓callL h6, ↓wRec_at, toD_lst, toD_tup, toDs_cons, toDs_nil, b1, b2]
    exact ⟨by omega, by omega, by omega, by omega, by omega, by omega, by omega, q⟩
end Oak
namespace Oak
open PySem PySem.Spec PyProof.Rows L2
open Tee (Dd DdAll ScrL SysAt Wd Od KD Stp Gok)
theorem Known.base {S : Sta} (k : Nat) (b : Blt S) : Known S k [] [] [] := ⟨fun _ h => (by cases h), fun _ h => (by cases h), b, fun _ h => (by cases h)⟩
theorem Known.f {S : Sta} {k j : Nat} {tbl : List (Str × Wp)} {cts : List (Str × Int)} {exs : List (Str × Addr)} {x : Str} {W : Wp} (h : Has S x j W) (kn : Known S k tbl cts exs) (hj : j ≤ k := by omega) : Known S k ((x, W) :: tbl) cts exs :=
  ⟨fun p hp => by
    rcases List.mem_cons.mp hp with rfl | hp
    · exact ⟨j, hj, h⟩
    · exact kn.fn p hp, kn.ct, kn.blt, kn.ex⟩
theorem Known.c {S : Sta} {k : Nat} {tbl : List (Str × Wp)} {cts : List (Str × Int)} {exs : List (Str × Addr)} {x : Str} {i : Int} {t : Tok} (h : S.mg x = some (.int i t)) (kn : Known S k tbl cts exs) : Known S k tbl ((x, i) :: cts) exs :=
  ⟨kn.fn, fun p hp => by
    rcases List.mem_cons.mp hp with rfl | hp
    · exact ⟨t, h⟩
    · exact kn.ct p hp, kn.blt, kn.ex⟩
theorem Known.e {S : Sta} {k : Nat} {tbl : List (Str × Wp)} {cts : List (Str × Int)} {exs : List (Str × Addr)} {x : Str} {C : Addr} (h : ExC S x C) (kn : Known S k tbl cts exs) : Known S k tbl cts ((x, C) :: exs) :=
  ⟨kn.fn, kn.ct, kn.blt, fun p hp => by
    rcases List.mem_cons.mp hp with rfl | hp
    · exact h
    · exact kn.ex p hp⟩
theorem Known.le {S : Sta} {k j : Nat} {tbl : List (Str × Wp)} {cts : List (Str × Int)} {exs : List (Str × Addr)} (kn : Known S k tbl cts exs) (h : k ≤ j) : Known S j tbl cts exs :=
  ⟨fun p hp => let ⟨i, a, b⟩ := kn.fn p hp; ⟨i, Nat.le_trans a h, b⟩, kn.ct, kn.blt, kn.ex⟩
theorem has_rec {S : Sta} {x qual : Str} {st : Stmt} {f : Addr} {fd : FuncData} {N ps : List Str} {k : Nat} (W : Nat → Wp) {C : Ctx} {ir : CSs} {tbl : List (Str × Wp)} {cts : List (Str × Int)} {exs : List (Str × Addr)} (F : Fun S.K x qual st f fd) (hm : S.mg x = some (.ref f)) (b : Binds S.K fd ps []) (Sc : FnScope N ps (defScope st)) (sys : SysAt S.base)
    (ok : okS C ir (defBody st) = true) (hN : C.N = N) (hsc : C.sc = defScope st) (hblk : C.blk = none) (kn : Known S k tbl cts exs)
    (hlen : ∀ n as Q E, W n as Q E → as.length = ps.length) (off : ∀ n as Q E, W n as Q E → ∀ j ∈ ir.owns, j ∉ fxsOf 0 as)
    (vc : ∀ n tb, (n = 0 → tb = tbl) → (∀ m, n = m + 1 → tb = (x, W m) :: tbl) → ∀ as Q E, W n as Q E → wpS (gamOf tb cts exs (endE as E)) ir (qd0 N as) (endW as Q)) : ∀ n, Has S x (k + 1 + n) (W n)
  | 0 => has_vc F hm b Sc sys ok hN hsc hblk kn (hlen 0) (off 0) (vc 0 _ (fun _ => rfl) fun m e => by cases e)
  | n + 1 => has_vc (k := k + 1 + n) F hm b Sc sys ok hN hsc hblk ((kn.le (by omega)).f (has_rec W F hm b Sc sys ok hN hsc hblk kn hlen off vc n) (Nat.le_refl _)) (hlen (n + 1)) (off (n + 1)) (vc (n + 1) _ (fun e => by cases e) fun m e => by cases e; rfl)
theorem gok_vc {S : Sta} {x qual : Str} {st : Stmt} {f : Addr} {fd : FuncData} {N ps : List Str} {k : Nat} {W : Wp} {C : Ctx} {ir : CSs} {tbl : List (Str × Wp)} {cts : List (Str × Int)} {exs : List (Str × Addr)} (F : Fun S.K x qual st f fd) (b : Binds S.K fd ps []) (Sc : FnScope N ps (defScope st)) (sys : SysAt S.base)
    (ok : okS C ir (defBody st) = true) (hN : C.N = N) (hsc : C.sc = defScope st) (hblk : C.blk = none) (kn : Known S k tbl cts exs)
    (hlen : ∀ as Q E, W as Q E → as.length = ps.length) (off : ∀ as Q E, W as Q E → ∀ j ∈ ir.owns, j ∉ fxsOf 0 as)
    (vc : ∀ as Q E, W as Q E → wpS (gamOf tbl cts exs (endE as E)) ir (qd0 N as) (endW as Q)) : Gok S.P S.w S.K S.mg S.base (L2.CX S.P S.w) (k + 1) f fd ps (spW S.K W) :=
  gok_fun W F Sc sys hlen fun as Q E h => sndS ir (gamOf tbl cts exs (endE as E)) C _ _ _ _ ⟨hN, hsc, fun _ _ => rfl⟩ (kn.ok (S' := ⟨S.P, S.w, S.K, S.mg, S.base, N, defScope st, fun _ => true, k, fxsOf 0 as, endE as E⟩) rfl rfl rfl rfl rfl rfl) (off as Q E h) ok (vc as Q E h)
theorem qa0 {as bs : List T} {own : List Nat} (e : as = bs) (h : (fxsOf 0 bs).all (fun j => !own.contains j) = true) : ∀ j ∈ own, j ∉ fxsOf 0 as := fun j hm hj => by
  rw [e] at hj
  have := List.all_eq_true.mp h j hj
  simp [hm] at this
end Oak
namespace Oak
open PySem PySem.Spec PyProof.Rows L2
open Tee (SysAt Gok)
def topS (i : Nat) : Stmt := PySem.Challenge.pw_teesizes_k08_records_judged.main.body.getD i (.Pass ⟨0, 0, 0, 0⟩)
abbrev sLawReel : Stmt := topS 10
def cxLawReel : Ctx := ⟨["script", "stir", "cell", "great"], defScope sLawReel, none⟩
theorem scLawReel : FnScope ["script", "stir", "cell", "great"] ["script"] (defScope sLawReel) := ⟨rfl, rfl, rfl, by decide +kernel, rfl, by decide +kernel, by decide +kernel⟩
theorem okLawReel : okS cxLawReel irLawReelR (defBody sLawReel) = true := by decide +kernel
abbrev sLawDraw : Stmt := topS 11
def cxLawDraw : Ctx := ⟨["reel", "many", "rest", "extra", "stir"], defScope sLawDraw, none⟩
theorem scLawDraw : FnScope ["reel", "many", "rest", "extra", "stir"] ["reel", "many"] (defScope sLawDraw) := ⟨rfl, rfl, rfl, by decide +kernel, rfl, by decide +kernel, by decide +kernel⟩
theorem okLawDraw : okS cxLawDraw irLawDrawR (defBody sLawDraw) = true := by decide +kernel
abbrev sLawRecord : Stmt := topS 12
def cxLawRecord : Ctx := ⟨["reel", "most", "longest", "found", "turn", "change"], defScope sLawRecord, none⟩
theorem scLawRecord : FnScope ["reel", "most", "longest", "found", "turn", "change"] ["reel", "most", "longest"] (defScope sLawRecord) := ⟨rfl, rfl, rfl, by decide +kernel, rfl, by decide +kernel, by decide +kernel⟩
theorem okLawRecord : okS cxLawRecord irLawRecordR (defBody sLawRecord) = true := by decide +kernel
abbrev sLawDressed : Stmt := topS 13
def cxLawDressed : Ctx := ⟨["reel", "value", "part", "parts"], defScope sLawDressed, none⟩
theorem scLawDressed : FnScope ["reel", "value", "part", "parts"] ["reel", "value"] (defScope sLawDressed) := ⟨rfl, rfl, rfl, by decide +kernel, rfl, by decide +kernel, by decide +kernel⟩
theorem okLawDressed : okS cxLawDressed irLawDressedR (defBody sLawDressed) = true := by decide +kernel
abbrev sLawBad : Stmt := topS 14
def cxLawBad : Ctx := ⟨["reel", "runs", "at", "odd", "one", "found", "spot", "turn", "long"], defScope sLawBad, none⟩
theorem scLawBad : FnScope ["reel", "runs", "at", "odd", "one", "found", "spot", "turn", "long"] ["reel", "runs"] (defScope sLawBad) := ⟨rfl, rfl, rfl, by decide +kernel, rfl, by decide +kernel, by decide +kernel⟩
theorem okLawBad : okS cxLawBad irLawBadZ (defBody sLawBad) = true := by decide +kernel
abbrev sIsListUpTo : Stmt := topS 3
def cxIsListUpTo : Ctx := ⟨["value", "most"], defScope sIsListUpTo, none⟩
theorem scIsListUpTo : FnScope ["value", "most"] ["value", "most"] (defScope sIsListUpTo) := ⟨rfl, rfl, rfl, by decide +kernel, rfl, by decide +kernel, by decide +kernel⟩
theorem okIsListUpTo : okS cxIsListUpTo irIsListUpTo (defBody sIsListUpTo) = true := by decide +kernel
abbrev sIsPair : Stmt := topS 4
def cxIsPair : Ctx := ⟨["value"], defScope sIsPair, none⟩
theorem scIsPair : FnScope ["value"] ["value"] (defScope sIsPair) := ⟨rfl, rfl, rfl, by decide +kernel, rfl, by decide +kernel, by decide +kernel⟩
theorem okIsPair : okS cxIsPair irIsPair (defBody sIsPair) = true := by decide +kernel
abbrev sIsIntegerBetween : Stmt := topS 2
def cxIsIntegerBetween : Ctx := ⟨["value", "least", "greatest"], defScope sIsIntegerBetween, none⟩
theorem scIsIntegerBetween : FnScope ["value", "least", "greatest"] ["value", "least", "greatest"] (defScope sIsIntegerBetween) := ⟨rfl, rfl, rfl, by decide +kernel, rfl, by decide +kernel, by decide +kernel⟩
theorem okIsIntegerBetween : okS cxIsIntegerBetween irIsIntegerBetween (defBody sIsIntegerBetween) = true := by decide +kernel
abbrev sIsRun : Stmt := topS 7
def cxIsRun : Ctx := ⟨["value"], defScope sIsRun, none⟩
theorem scIsRun : FnScope ["value"] ["value"] (defScope sIsRun) := ⟨rfl, rfl, rfl, by decide +kernel, rfl, by decide +kernel, by decide +kernel⟩
theorem okIsRun : okS cxIsRun irIsRun (defBody sIsRun) = true := by decide +kernel
abbrev sIsRecord : Stmt := topS 8
def cxIsRecord : Ctx := ⟨["value", "change_before", "run"], defScope sIsRecord, none⟩
theorem scIsRecord : FnScope ["value", "change_before", "run"] ["value"] (defScope sIsRecord) := ⟨rfl, rfl, rfl, by decide +kernel, rfl, by decide +kernel, by decide +kernel⟩
theorem okIsRecord : okS cxIsRecord irIsRecord (defBody sIsRecord) = true := by decide +kernel
abbrev sLaw : Stmt := topS 15
def cxLaw : Ctx := ⟨["script", "reel", "k", "runs", "turn", "whole", "good", "bad", "kept", "value"], defScope sLaw, none⟩
theorem scLaw : FnScope ["script", "reel", "k", "runs", "turn", "whole", "good", "bad", "kept", "value"] ["script"] (defScope sLaw) := ⟨rfl, rfl, rfl, by decide +kernel, rfl, by decide +kernel, by decide +kernel⟩
theorem okLaw : okS cxLaw irLawZ (defBody sLaw) = true := by decide +kernel
theorem all_mk {l : PySem.W.OpenLaw} {w : World} {K : PySem.W.Frag} {h : Heap} {mg : Str → Option Value} {fa f0 f1 f2 f3 f4 f5 f6 f7 f8 f9 f10  : Addr} (X : K.In h) (G : h.Ns mainGlobals mg) (hfa : mg "law" = some (.ref fa))
    {od0 an0 od1 an1 od2 an2 od3 an3 od4 an4 od5 an5 od6 an6 od7 an7 od8 an8 od9 an9 od10 an10 : Option Addr} {sl0 sl1 sl2 sl3 sl4 sl5 sl6 sl7 sl8 sl9 sl10 : Array (Option Value)} {oc0 kV0 dc0 pm0 cd0 ct0 oc1 kV1 dc1 pm1 cd1 ct1 oc2 kV2 dc2 pm2 cd2 ct2 oc3 kV3 dc3 pm3 cd3 ct3 oc4 kV4 dc4 pm4 cd4 ct4 oc5 kV5 dc5 pm5 cd5 ct5 oc6 kV6 dc6 pm6 cd6 ct6 oc7 kV7 dc7 pm7 cd7 ct7 oc8 kV8 dc8 pm8 cd8 ct8 oc9 kV9 dc9 pm9 cd9 ct9 oc10 kV10 dc10 pm10 cd10 ct10 : Value} {tk0 tk1 : Tok}
    (a0 : PySem.W.nsIn K mainGlobals "_law_reel" = some (some (.ref f0))) (l0 : K.lookup f0 = some ⟨oc0, od0, .func (PySem.W.fnOf "_law_reel" "_law_reel" (defArgs sLawReel) (defBody sLawReel) (defScope sLawReel) .none kV0 dc0 pm0 an0 cd0 ct0), sl0⟩) (c0 : PySem.W.codeIn K cd0 "_law_reel" = true) (k0 : PySem.W.keepIn K (.ref f0) = true)
    (a1 : PySem.W.nsIn K mainGlobals "_law_draw" = some (some (.ref f1))) (l1 : K.lookup f1 = some ⟨oc1, od1, .func (PySem.W.fnOf "_law_draw" "_law_draw" (defArgs sLawDraw) (defBody sLawDraw) (defScope sLawDraw) .none kV1 dc1 pm1 an1 cd1 ct1), sl1⟩) (c1 : PySem.W.codeIn K cd1 "_law_draw" = true) (k1 : PySem.W.keepIn K (.ref f1) = true)
    (a2 : PySem.W.nsIn K mainGlobals "_law_record" = some (some (.ref f2))) (l2 : K.lookup f2 = some ⟨oc2, od2, .func (PySem.W.fnOf "_law_record" "_law_record" (defArgs sLawRecord) (defBody sLawRecord) (defScope sLawRecord) .none kV2 dc2 pm2 an2 cd2 ct2), sl2⟩) (c2 : PySem.W.codeIn K cd2 "_law_record" = true) (k2 : PySem.W.keepIn K (.ref f2) = true)
    (a3 : PySem.W.nsIn K mainGlobals "_law_dressed" = some (some (.ref f3))) (l3 : K.lookup f3 = some ⟨oc3, od3, .func (PySem.W.fnOf "_law_dressed" "_law_dressed" (defArgs sLawDressed) (defBody sLawDressed) (defScope sLawDressed) .none kV3 dc3 pm3 an3 cd3 ct3), sl3⟩) (c3 : PySem.W.codeIn K cd3 "_law_dressed" = true) (k3 : PySem.W.keepIn K (.ref f3) = true)
    (a4 : PySem.W.nsIn K mainGlobals "_law_bad" = some (some (.ref f4))) (l4 : K.lookup f4 = some ⟨oc4, od4, .func (PySem.W.fnOf "_law_bad" "_law_bad" (defArgs sLawBad) (defBody sLawBad) (defScope sLawBad) .none kV4 dc4 pm4 an4 cd4 ct4), sl4⟩) (c4 : PySem.W.codeIn K cd4 "_law_bad" = true) (k4 : PySem.W.keepIn K (.ref f4) = true)
    (a5 : PySem.W.nsIn K mainGlobals "is_list_up_to" = some (some (.ref f5))) (l5 : K.lookup f5 = some ⟨oc5, od5, .func (PySem.W.fnOf "is_list_up_to" "is_list_up_to" (defArgs sIsListUpTo) (defBody sIsListUpTo) (defScope sIsListUpTo) .none kV5 dc5 pm5 an5 cd5 ct5), sl5⟩) (c5 : PySem.W.codeIn K cd5 "is_list_up_to" = true) (k5 : PySem.W.keepIn K (.ref f5) = true)
    (a6 : PySem.W.nsIn K mainGlobals "is_pair" = some (some (.ref f6))) (l6 : K.lookup f6 = some ⟨oc6, od6, .func (PySem.W.fnOf "is_pair" "is_pair" (defArgs sIsPair) (defBody sIsPair) (defScope sIsPair) .none kV6 dc6 pm6 an6 cd6 ct6), sl6⟩) (c6 : PySem.W.codeIn K cd6 "is_pair" = true) (k6 : PySem.W.keepIn K (.ref f6) = true)
    (a7 : PySem.W.nsIn K mainGlobals "is_integer_between" = some (some (.ref f7))) (l7 : K.lookup f7 = some ⟨oc7, od7, .func (PySem.W.fnOf "is_integer_between" "is_integer_between" (defArgs sIsIntegerBetween) (defBody sIsIntegerBetween) (defScope sIsIntegerBetween) .none kV7 dc7 pm7 an7 cd7 ct7), sl7⟩) (c7 : PySem.W.codeIn K cd7 "is_integer_between" = true) (k7 : PySem.W.keepIn K (.ref f7) = true)
    (a8 : PySem.W.nsIn K mainGlobals "is_run" = some (some (.ref f8))) (l8 : K.lookup f8 = some ⟨oc8, od8, .func (PySem.W.fnOf "is_run" "is_run" (defArgs sIsRun) (defBody sIsRun) (defScope sIsRun) .none kV8 dc8 pm8 an8 cd8 ct8), sl8⟩) (c8 : PySem.W.codeIn K cd8 "is_run" = true) (k8 : PySem.W.keepIn K (.ref f8) = true)
    (a9 : PySem.W.nsIn K mainGlobals "is_record" = some (some (.ref f9))) (l9 : K.lookup f9 = some ⟨oc9, od9, .func (PySem.W.fnOf "is_record" "is_record" (defArgs sIsRecord) (defBody sIsRecord) (defScope sIsRecord) .none kV9 dc9 pm9 an9 cd9 ct9), sl9⟩) (c9 : PySem.W.codeIn K cd9 "is_record" = true) (k9 : PySem.W.keepIn K (.ref f9) = true)
    (a10 : PySem.W.nsIn K mainGlobals "law" = some (some (.ref f10))) (l10 : K.lookup f10 = some ⟨oc10, od10, .func (PySem.W.fnOf "law" "law" (defArgs sLaw) (defBody sLaw) (defScope sLaw) .none kV10 dc10 pm10 an10 cd10 ct10), sl10⟩) (c10 : PySem.W.codeIn K cd10 "law" = true) (k10 : PySem.W.keepIn K (.ref f10) = true)
    (kst0 : PySem.W.nsIn K mainGlobals "MOST_COUNT" = some (some (.int 1000000000000000000000000000000 tk0)))
    (kst1 : PySem.W.nsIn K mainGlobals "MOST_ITEMS" = some (some (.int 400 tk1)))
    (z0 : PySem.W.nsIn K mainGlobals "len" = some none)
    (z1 : PySem.W.nsIn K mainGlobals "sum" = some none)
    (z2 : PySem.W.nsIn K mainGlobals "max" = some none)
    (z3 : PySem.W.nsIn K mainGlobals "min" = some none)
    (z4 : PySem.W.nsIn K mainGlobals "all" = some none)
    (z5 : PySem.W.nsIn K mainGlobals "any" = some none)
    (z6 : PySem.W.nsIn K mainGlobals "int" = some none)
    (z7 : PySem.W.nsIn K mainGlobals "range" = some none)
    (z8 : PySem.W.nsIn K mainGlobals "repr" = some none)
    (z9 : PySem.W.nsIn K mainGlobals "isinstance" = some none)
    (z10 : PySem.W.nsIn K mainGlobals "list" = some none)
    (z11 : PySem.W.nsIn K mainGlobals "tuple" = some none)
    (z12 : PySem.W.nsIn K mainGlobals "sorted" = some none)
    (z13 : PySem.W.nsIn K mainGlobals "abs" = some none)
    (z14 : PySem.W.nsIn K mainGlobals "zip" = some none)
    (z15 : PySem.W.nsIn K mainGlobals "enumerate" = some none)
    (z16 : PySem.W.nsIn K mainGlobals "divmod" = some none)
    (z17 : PySem.W.nsIn K mainGlobals "bool" = some none)
    (z18 : PySem.W.nsIn K mainGlobals "str" = some none)
    (z19 : PySem.W.nsIn K mainGlobals "dict" = some none)
    (z20 : PySem.W.nsIn K mainGlobals "set" = some none)
    (z21 : PySem.W.nsIn K mainGlobals "reversed" = some none)
    : ∃ fd : FuncData, (∀ (s : Shared) (u : Value), BindsTo s fd ⟨[u], []⟩ [("script", u)]) ∧ ∀ base : Heap, K.In base → base.Ns mainGlobals mg → SysAt base → Gok l.prog w K mg base (L2.CX l.prog w) 6 fa fd ["script"] (spW K wLaw) := by
  have e := hfa.symm.trans (PySem.W.mg_of X G a10)
  cases e
  have F0 := fun_mk (st := sLawReel) l0 c0 k0
  have b0 := F0.binds (ps := ["script"]) fun _ _ _ _ _ _ us hl => match us, hl with | [_], _ => rfl
  have m0 := PySem.W.mg_of X G a0
  have F1 := fun_mk (st := sLawDraw) l1 c1 k1
  have b1 := F1.binds (ps := ["reel", "many"]) fun _ _ _ _ _ _ us hl => match us, hl with | [_, _], _ => rfl
  have m1 := PySem.W.mg_of X G a1
  have F2 := fun_mk (st := sLawRecord) l2 c2 k2
  have b2 := F2.binds (ps := ["reel", "most", "longest"]) fun _ _ _ _ _ _ us hl => match us, hl with | [_, _, _], _ => rfl
  have m2 := PySem.W.mg_of X G a2
  have F3 := fun_mk (st := sLawDressed) l3 c3 k3
  have b3 := F3.binds (ps := ["reel", "value"]) fun _ _ _ _ _ _ us hl => match us, hl with | [_, _], _ => rfl
  have m3 := PySem.W.mg_of X G a3
  have F4 := fun_mk (st := sLawBad) l4 c4 k4
  have b4 := F4.binds (ps := ["reel", "runs"]) fun _ _ _ _ _ _ us hl => match us, hl with | [_, _], _ => rfl
  have m4 := PySem.W.mg_of X G a4
  have F5 := fun_mk (st := sIsListUpTo) l5 c5 k5
  have b5 := F5.binds (ps := ["value", "most"]) fun _ _ _ _ _ _ us hl => match us, hl with | [_, _], _ => rfl
  have m5 := PySem.W.mg_of X G a5
  have F6 := fun_mk (st := sIsPair) l6 c6 k6
  have b6 := F6.binds (ps := ["value"]) fun _ _ _ _ _ _ us hl => match us, hl with | [_], _ => rfl
  have m6 := PySem.W.mg_of X G a6
  have F7 := fun_mk (st := sIsIntegerBetween) l7 c7 k7
  have b7 := F7.binds (ps := ["value", "least", "greatest"]) fun _ _ _ _ _ _ us hl => match us, hl with | [_, _, _], _ => rfl
  have m7 := PySem.W.mg_of X G a7
  have F8 := fun_mk (st := sIsRun) l8 c8 k8
  have b8 := F8.binds (ps := ["value"]) fun _ _ _ _ _ _ us hl => match us, hl with | [_], _ => rfl
  have m8 := PySem.W.mg_of X G a8
  have F9 := fun_mk (st := sIsRecord) l9 c9 k9
  have b9 := F9.binds (ps := ["value"]) fun _ _ _ _ _ _ us hl => match us, hl with | [_], _ => rfl
  have m9 := PySem.W.mg_of X G a9
  have F10 := fun_mk (st := sLaw) l10 c10 k10
  have cg0 := PySem.W.mg_of X G kst0
  have cg1 := PySem.W.mg_of X G kst1
  refine ⟨PySem.W.fnOf "law" "law" (defArgs sLaw) (defBody sLaw) (defScope sLaw) .none kV10 dc10 pm10 an10 cd10 ct10, fun s v => .of_eq rfl, fun base _ _ sys => ?_⟩
  let S : Sta := ⟨l.prog, w, K, mg, base, [], defScope sLaw, fun _ => true, 0, [], fun _ _ _ => False⟩
  have B : Blt S := fun x hx => by
    simp only [bltN, List.mem_cons, List.not_mem_nil, or_false] at hx
    rcases hx with rfl | rfl | rfl | rfl | rfl | rfl | rfl | rfl | rfl | rfl | rfl | rfl | rfl | rfl | rfl | rfl | rfl | rfl | rfl | rfl | rfl | rfl
    · exact PySem.W.mg_none_of X G z0
    · exact PySem.W.mg_none_of X G z1
    · exact PySem.W.mg_none_of X G z2
    · exact PySem.W.mg_none_of X G z3
    · exact PySem.W.mg_none_of X G z4
    · exact PySem.W.mg_none_of X G z5
    · exact PySem.W.mg_none_of X G z6
    · exact PySem.W.mg_none_of X G z7
    · exact PySem.W.mg_none_of X G z8
    · exact PySem.W.mg_none_of X G z9
    · exact PySem.W.mg_none_of X G z10
    · exact PySem.W.mg_none_of X G z11
    · exact PySem.W.mg_none_of X G z12
    · exact PySem.W.mg_none_of X G z13
    · exact PySem.W.mg_none_of X G z14
    · exact PySem.W.mg_none_of X G z15
    · exact PySem.W.mg_none_of X G z16
    · exact PySem.W.mg_none_of X G z17
    · exact PySem.W.mg_none_of X G z18
    · exact PySem.W.mg_none_of X G z19
    · exact PySem.W.mg_none_of X G z20
    · exact PySem.W.mg_none_of X G z21
  have hLawReel : Has S "_law_reel" 1 wReel := has_vc (S := S) F0 m0 b0 scLawReel sys okLawReel rfl rfl rfl (Known.base 0 B) (by first | exact fun _ _ _ ⟨_, e, _⟩ => by rw [e]; rfl | exact fun _ _ _ ⟨_, _, e, _⟩ => by rw [e]; rfl | exact fun _ _ _ ⟨_, _, _, e, _⟩ => by rw [e]; rfl | exact fun _ _ _ ⟨_, _, _, _, e, _⟩ => by rw [e]; rfl | exact fun _ _ _ ⟨_, _, _, _, _, e, _⟩ => by rw [e]; rfl | exact fun _ _ _ ⟨_, _, _, _, _, _, e, _⟩ => by rw [e]; rfl | exact fun _ _ _ ⟨_, _, _, _, _, _, _, e, _⟩ => by rw [e]; rfl | exact fun _ _ _ ⟨_, _, _, _, _, _, _, _, e, _⟩ => by rw [e]; rfl | exact fun _ _ _ ⟨_, _, _, _, _, _, _, _, _, e, _⟩ => by rw [e]; rfl | exact fun _ _ _ ⟨_, _, _, _, _, _, _, _, _, _, e, _⟩ => by rw [e]; rfl) (by first | exact fun _ _ _ ⟨_, e, _⟩ => qa0 e (by rfl) | exact fun _ _ _ ⟨_, _, e, _⟩ => qa0 e (by rfl) | exact fun _ _ _ ⟨_, _, _, e, _⟩ => qa0 e (by rfl) | exact fun _ _ _ ⟨_, _, _, _, e, _⟩ => qa0 e (by rfl) | exact fun _ _ _ ⟨_, _, _, _, _, e, _⟩ => qa0 e (by rfl) | exact fun _ _ _ ⟨_, _, _, _, _, _, e, _⟩ => qa0 e (by rfl) | exact fun _ _ _ ⟨_, _, _, _, _, _, _, e, _⟩ => qa0 e (by rfl) | exact fun _ _ _ ⟨_, _, _, _, _, _, _, _, e, _⟩ => qa0 e (by rfl) | exact fun _ _ _ ⟨_, _, _, _, _, _, _, _, _, e, _⟩ => qa0 e (by rfl) | exact fun _ _ _ ⟨_, _, _, _, _, _, _, _, _, _, e, _⟩ => qa0 e (by rfl)) (fun as Q E h => vcReel _ as Q E h)
  have hLawDraw : Has S "_law_draw" 1 wDrawR := has_vc (S := S) F1 m1 b1 scLawDraw sys okLawDraw rfl rfl rfl (Known.base 0 B) (by first | exact fun _ _ _ ⟨_, e, _⟩ => by rw [e]; rfl | exact fun _ _ _ ⟨_, _, e, _⟩ => by rw [e]; rfl | exact fun _ _ _ ⟨_, _, _, e, _⟩ => by rw [e]; rfl | exact fun _ _ _ ⟨_, _, _, _, e, _⟩ => by rw [e]; rfl | exact fun _ _ _ ⟨_, _, _, _, _, e, _⟩ => by rw [e]; rfl | exact fun _ _ _ ⟨_, _, _, _, _, _, e, _⟩ => by rw [e]; rfl | exact fun _ _ _ ⟨_, _, _, _, _, _, _, e, _⟩ => by rw [e]; rfl | exact fun _ _ _ ⟨_, _, _, _, _, _, _, _, e, _⟩ => by rw [e]; rfl | exact fun _ _ _ ⟨_, _, _, _, _, _, _, _, _, e, _⟩ => by rw [e]; rfl | exact fun _ _ _ ⟨_, _, _, _, _, _, _, _, _, _, e, _⟩ => by rw [e]; rfl) (by first | exact fun _ _ _ ⟨_, e, _⟩ => qa0 e (by rfl) | exact fun _ _ _ ⟨_, _, e, _⟩ => qa0 e (by rfl) | exact fun _ _ _ ⟨_, _, _, e, _⟩ => qa0 e (by rfl) | exact fun _ _ _ ⟨_, _, _, _, e, _⟩ => qa0 e (by rfl) | exact fun _ _ _ ⟨_, _, _, _, _, e, _⟩ => qa0 e (by rfl) | exact fun _ _ _ ⟨_, _, _, _, _, _, e, _⟩ => qa0 e (by rfl) | exact fun _ _ _ ⟨_, _, _, _, _, _, _, e, _⟩ => qa0 e (by rfl) | exact fun _ _ _ ⟨_, _, _, _, _, _, _, _, e, _⟩ => qa0 e (by rfl) | exact fun _ _ _ ⟨_, _, _, _, _, _, _, _, _, e, _⟩ => qa0 e (by rfl) | exact fun _ _ _ ⟨_, _, _, _, _, _, _, _, _, _, e, _⟩ => qa0 e (by rfl)) (fun as Q E h => vcDrawR _ as Q E h)
  have hLawRecord : Has S "_law_record" 2 wRecR := has_vc (S := S) F2 m2 b2 scLawRecord sys okLawRecord rfl rfl rfl (Known.f hLawDraw (Known.base 1 B)) (by first | exact fun _ _ _ ⟨_, e, _⟩ => by rw [e]; rfl | exact fun _ _ _ ⟨_, _, e, _⟩ => by rw [e]; rfl | exact fun _ _ _ ⟨_, _, _, e, _⟩ => by rw [e]; rfl | exact fun _ _ _ ⟨_, _, _, _, e, _⟩ => by rw [e]; rfl | exact fun _ _ _ ⟨_, _, _, _, _, e, _⟩ => by rw [e]; rfl | exact fun _ _ _ ⟨_, _, _, _, _, _, e, _⟩ => by rw [e]; rfl | exact fun _ _ _ ⟨_, _, _, _, _, _, _, e, _⟩ => by rw [e]; rfl | exact fun _ _ _ ⟨_, _, _, _, _, _, _, _, e, _⟩ => by rw [e]; rfl | exact fun _ _ _ ⟨_, _, _, _, _, _, _, _, _, e, _⟩ => by rw [e]; rfl | exact fun _ _ _ ⟨_, _, _, _, _, _, _, _, _, _, e, _⟩ => by rw [e]; rfl) (by first | exact fun _ _ _ ⟨_, e, _⟩ => qa0 e (by rfl) | exact fun _ _ _ ⟨_, _, e, _⟩ => qa0 e (by rfl) | exact fun _ _ _ ⟨_, _, _, e, _⟩ => qa0 e (by rfl) | exact fun _ _ _ ⟨_, _, _, _, e, _⟩ => qa0 e (by rfl) | exact fun _ _ _ ⟨_, _, _, _, _, e, _⟩ => qa0 e (by rfl) | exact fun _ _ _ ⟨_, _, _, _, _, _, e, _⟩ => qa0 e (by rfl) | exact fun _ _ _ ⟨_, _, _, _, _, _, _, e, _⟩ => qa0 e (by rfl) | exact fun _ _ _ ⟨_, _, _, _, _, _, _, _, e, _⟩ => qa0 e (by rfl) | exact fun _ _ _ ⟨_, _, _, _, _, _, _, _, _, e, _⟩ => qa0 e (by rfl) | exact fun _ _ _ ⟨_, _, _, _, _, _, _, _, _, _, e, _⟩ => qa0 e (by rfl)) (fun as Q E h => vcRecR _ rfl as Q E h)
  have hLawDressed : Has S "_law_dressed" 5 (wDressedR 3) := has_rec (S := S) (k := 1) wDressedR F3 m3 b3 scLawDressed sys okLawDressed rfl rfl rfl (Known.f hLawDraw (Known.base 1 B)) (fun n => (by first | exact fun _ _ _ ⟨_, e, _⟩ => by rw [e]; rfl | exact fun _ _ _ ⟨_, _, e, _⟩ => by rw [e]; rfl | exact fun _ _ _ ⟨_, _, _, e, _⟩ => by rw [e]; rfl | exact fun _ _ _ ⟨_, _, _, _, e, _⟩ => by rw [e]; rfl | exact fun _ _ _ ⟨_, _, _, _, _, e, _⟩ => by rw [e]; rfl | exact fun _ _ _ ⟨_, _, _, _, _, _, e, _⟩ => by rw [e]; rfl | exact fun _ _ _ ⟨_, _, _, _, _, _, _, e, _⟩ => by rw [e]; rfl | exact fun _ _ _ ⟨_, _, _, _, _, _, _, _, e, _⟩ => by rw [e]; rfl | exact fun _ _ _ ⟨_, _, _, _, _, _, _, _, _, e, _⟩ => by rw [e]; rfl | exact fun _ _ _ ⟨_, _, _, _, _, _, _, _, _, _, e, _⟩ => by rw [e]; rfl)) (fun n => (by first | exact fun _ _ _ ⟨_, e, _⟩ => qa0 e (by rfl) | exact fun _ _ _ ⟨_, _, e, _⟩ => qa0 e (by rfl) | exact fun _ _ _ ⟨_, _, _, e, _⟩ => qa0 e (by rfl) | exact fun _ _ _ ⟨_, _, _, _, e, _⟩ => qa0 e (by rfl) | exact fun _ _ _ ⟨_, _, _, _, _, e, _⟩ => qa0 e (by rfl) | exact fun _ _ _ ⟨_, _, _, _, _, _, e, _⟩ => qa0 e (by rfl) | exact fun _ _ _ ⟨_, _, _, _, _, _, _, e, _⟩ => qa0 e (by rfl) | exact fun _ _ _ ⟨_, _, _, _, _, _, _, _, e, _⟩ => qa0 e (by rfl) | exact fun _ _ _ ⟨_, _, _, _, _, _, _, _, _, e, _⟩ => qa0 e (by rfl) | exact fun _ _ _ ⟨_, _, _, _, _, _, _, _, _, _, e, _⟩ => qa0 e (by rfl))) (fun n tb h0 h1 as Q E h => vcDressedR n _ (fun m e => by rw [h1 m e]; rfl) (by cases n; (· rw [h0 rfl]; rfl); (· rw [h1 _ rfl]; rfl)) as Q E h) 3
  have hLawBad : Has S "_law_bad" 2 wBadR := has_vc (S := S) F4 m4 b4 scLawBad sys okLawBad rfl rfl rfl (Known.f hLawDraw (Known.base 1 B)) (by first | exact fun _ _ _ ⟨_, e, _⟩ => by rw [e]; rfl | exact fun _ _ _ ⟨_, _, e, _⟩ => by rw [e]; rfl | exact fun _ _ _ ⟨_, _, _, e, _⟩ => by rw [e]; rfl | exact fun _ _ _ ⟨_, _, _, _, e, _⟩ => by rw [e]; rfl | exact fun _ _ _ ⟨_, _, _, _, _, e, _⟩ => by rw [e]; rfl | exact fun _ _ _ ⟨_, _, _, _, _, _, e, _⟩ => by rw [e]; rfl | exact fun _ _ _ ⟨_, _, _, _, _, _, _, e, _⟩ => by rw [e]; rfl | exact fun _ _ _ ⟨_, _, _, _, _, _, _, _, e, _⟩ => by rw [e]; rfl | exact fun _ _ _ ⟨_, _, _, _, _, _, _, _, _, e, _⟩ => by rw [e]; rfl | exact fun _ _ _ ⟨_, _, _, _, _, _, _, _, _, _, e, _⟩ => by rw [e]; rfl) (by first | exact fun _ _ _ ⟨_, e, _⟩ => qa0 e (by rfl) | exact fun _ _ _ ⟨_, _, e, _⟩ => qa0 e (by rfl) | exact fun _ _ _ ⟨_, _, _, e, _⟩ => qa0 e (by rfl) | exact fun _ _ _ ⟨_, _, _, _, e, _⟩ => qa0 e (by rfl) | exact fun _ _ _ ⟨_, _, _, _, _, e, _⟩ => qa0 e (by rfl) | exact fun _ _ _ ⟨_, _, _, _, _, _, e, _⟩ => qa0 e (by rfl) | exact fun _ _ _ ⟨_, _, _, _, _, _, _, e, _⟩ => qa0 e (by rfl) | exact fun _ _ _ ⟨_, _, _, _, _, _, _, _, e, _⟩ => qa0 e (by rfl) | exact fun _ _ _ ⟨_, _, _, _, _, _, _, _, _, e, _⟩ => qa0 e (by rfl) | exact fun _ _ _ ⟨_, _, _, _, _, _, _, _, _, _, e, _⟩ => qa0 e (by rfl)) (fun as Q E h => vcBadR _ rfl as Q E h)
  have hIsListUpTo : Has S "is_list_up_to" 1 wIlu := has_vc (S := S) F5 m5 b5 scIsListUpTo sys okIsListUpTo rfl rfl rfl (Known.base 0 B) (by first | exact fun _ _ _ ⟨_, e, _⟩ => by rw [e]; rfl | exact fun _ _ _ ⟨_, _, e, _⟩ => by rw [e]; rfl | exact fun _ _ _ ⟨_, _, _, e, _⟩ => by rw [e]; rfl | exact fun _ _ _ ⟨_, _, _, _, e, _⟩ => by rw [e]; rfl | exact fun _ _ _ ⟨_, _, _, _, _, e, _⟩ => by rw [e]; rfl | exact fun _ _ _ ⟨_, _, _, _, _, _, e, _⟩ => by rw [e]; rfl | exact fun _ _ _ ⟨_, _, _, _, _, _, _, e, _⟩ => by rw [e]; rfl | exact fun _ _ _ ⟨_, _, _, _, _, _, _, _, e, _⟩ => by rw [e]; rfl | exact fun _ _ _ ⟨_, _, _, _, _, _, _, _, _, e, _⟩ => by rw [e]; rfl | exact fun _ _ _ ⟨_, _, _, _, _, _, _, _, _, _, e, _⟩ => by rw [e]; rfl) (by first | exact fun _ _ _ ⟨_, e, _⟩ => qa0 e (by rfl) | exact fun _ _ _ ⟨_, _, e, _⟩ => qa0 e (by rfl) | exact fun _ _ _ ⟨_, _, _, e, _⟩ => qa0 e (by rfl) | exact fun _ _ _ ⟨_, _, _, _, e, _⟩ => qa0 e (by rfl) | exact fun _ _ _ ⟨_, _, _, _, _, e, _⟩ => qa0 e (by rfl) | exact fun _ _ _ ⟨_, _, _, _, _, _, e, _⟩ => qa0 e (by rfl) | exact fun _ _ _ ⟨_, _, _, _, _, _, _, e, _⟩ => qa0 e (by rfl) | exact fun _ _ _ ⟨_, _, _, _, _, _, _, _, e, _⟩ => qa0 e (by rfl) | exact fun _ _ _ ⟨_, _, _, _, _, _, _, _, _, e, _⟩ => qa0 e (by rfl) | exact fun _ _ _ ⟨_, _, _, _, _, _, _, _, _, _, e, _⟩ => qa0 e (by rfl)) (fun as Q E h => vcIlu _ as Q E h)
  have hIsPair : Has S "is_pair" 1 wPair := has_vc (S := S) F6 m6 b6 scIsPair sys okIsPair rfl rfl rfl (Known.base 0 B) (by first | exact fun _ _ _ ⟨_, e, _⟩ => by rw [e]; rfl | exact fun _ _ _ ⟨_, _, e, _⟩ => by rw [e]; rfl | exact fun _ _ _ ⟨_, _, _, e, _⟩ => by rw [e]; rfl | exact fun _ _ _ ⟨_, _, _, _, e, _⟩ => by rw [e]; rfl | exact fun _ _ _ ⟨_, _, _, _, _, e, _⟩ => by rw [e]; rfl | exact fun _ _ _ ⟨_, _, _, _, _, _, e, _⟩ => by rw [e]; rfl | exact fun _ _ _ ⟨_, _, _, _, _, _, _, e, _⟩ => by rw [e]; rfl | exact fun _ _ _ ⟨_, _, _, _, _, _, _, _, e, _⟩ => by rw [e]; rfl | exact fun _ _ _ ⟨_, _, _, _, _, _, _, _, _, e, _⟩ => by rw [e]; rfl | exact fun _ _ _ ⟨_, _, _, _, _, _, _, _, _, _, e, _⟩ => by rw [e]; rfl) (by first | exact fun _ _ _ ⟨_, e, _⟩ => qa0 e (by rfl) | exact fun _ _ _ ⟨_, _, e, _⟩ => qa0 e (by rfl) | exact fun _ _ _ ⟨_, _, _, e, _⟩ => qa0 e (by rfl) | exact fun _ _ _ ⟨_, _, _, _, e, _⟩ => qa0 e (by rfl) | exact fun _ _ _ ⟨_, _, _, _, _, e, _⟩ => qa0 e (by rfl) | exact fun _ _ _ ⟨_, _, _, _, _, _, e, _⟩ => qa0 e (by rfl) | exact fun _ _ _ ⟨_, _, _, _, _, _, _, e, _⟩ => qa0 e (by rfl) | exact fun _ _ _ ⟨_, _, _, _, _, _, _, _, e, _⟩ => qa0 e (by rfl) | exact fun _ _ _ ⟨_, _, _, _, _, _, _, _, _, e, _⟩ => qa0 e (by rfl) | exact fun _ _ _ ⟨_, _, _, _, _, _, _, _, _, _, e, _⟩ => qa0 e (by rfl)) (fun as Q E h => vcPair _ as Q E h)
  have hIsIntegerBetween : Has S "is_integer_between" 1 wIib := has_vc (S := S) F7 m7 b7 scIsIntegerBetween sys okIsIntegerBetween rfl rfl rfl (Known.base 0 B) (by first | exact fun _ _ _ ⟨_, e, _⟩ => by rw [e]; rfl | exact fun _ _ _ ⟨_, _, e, _⟩ => by rw [e]; rfl | exact fun _ _ _ ⟨_, _, _, e, _⟩ => by rw [e]; rfl | exact fun _ _ _ ⟨_, _, _, _, e, _⟩ => by rw [e]; rfl | exact fun _ _ _ ⟨_, _, _, _, _, e, _⟩ => by rw [e]; rfl | exact fun _ _ _ ⟨_, _, _, _, _, _, e, _⟩ => by rw [e]; rfl | exact fun _ _ _ ⟨_, _, _, _, _, _, _, e, _⟩ => by rw [e]; rfl | exact fun _ _ _ ⟨_, _, _, _, _, _, _, _, e, _⟩ => by rw [e]; rfl | exact fun _ _ _ ⟨_, _, _, _, _, _, _, _, _, e, _⟩ => by rw [e]; rfl | exact fun _ _ _ ⟨_, _, _, _, _, _, _, _, _, _, e, _⟩ => by rw [e]; rfl) (by first | exact fun _ _ _ ⟨_, e, _⟩ => qa0 e (by rfl) | exact fun _ _ _ ⟨_, _, e, _⟩ => qa0 e (by rfl) | exact fun _ _ _ ⟨_, _, _, e, _⟩ => qa0 e (by rfl) | exact fun _ _ _ ⟨_, _, _, _, e, _⟩ => qa0 e (by rfl) | exact fun _ _ _ ⟨_, _, _, _, _, e, _⟩ => qa0 e (by rfl) | exact fun _ _ _ ⟨_, _, _, _, _, _, e, _⟩ => qa0 e (by rfl) | exact fun _ _ _ ⟨_, _, _, _, _, _, _, e, _⟩ => qa0 e (by rfl) | exact fun _ _ _ ⟨_, _, _, _, _, _, _, _, e, _⟩ => qa0 e (by rfl) | exact fun _ _ _ ⟨_, _, _, _, _, _, _, _, _, e, _⟩ => qa0 e (by rfl) | exact fun _ _ _ ⟨_, _, _, _, _, _, _, _, _, _, e, _⟩ => qa0 e (by rfl)) (fun as Q E h => vcIib _ as Q E h)
  have hIsRun : Has S "is_run" 2 wRun := has_vc (S := S) F8 m8 b8 scIsRun sys okIsRun rfl rfl rfl (Known.f hIsIntegerBetween (Known.f hIsPair (Known.c cg0 (Known.base 1 B)))) (by first | exact fun _ _ _ ⟨_, e, _⟩ => by rw [e]; rfl | exact fun _ _ _ ⟨_, _, e, _⟩ => by rw [e]; rfl | exact fun _ _ _ ⟨_, _, _, e, _⟩ => by rw [e]; rfl | exact fun _ _ _ ⟨_, _, _, _, e, _⟩ => by rw [e]; rfl | exact fun _ _ _ ⟨_, _, _, _, _, e, _⟩ => by rw [e]; rfl | exact fun _ _ _ ⟨_, _, _, _, _, _, e, _⟩ => by rw [e]; rfl | exact fun _ _ _ ⟨_, _, _, _, _, _, _, e, _⟩ => by rw [e]; rfl | exact fun _ _ _ ⟨_, _, _, _, _, _, _, _, e, _⟩ => by rw [e]; rfl | exact fun _ _ _ ⟨_, _, _, _, _, _, _, _, _, e, _⟩ => by rw [e]; rfl | exact fun _ _ _ ⟨_, _, _, _, _, _, _, _, _, _, e, _⟩ => by rw [e]; rfl) (by first | exact fun _ _ _ ⟨_, e, _⟩ => qa0 e (by rfl) | exact fun _ _ _ ⟨_, _, e, _⟩ => qa0 e (by rfl) | exact fun _ _ _ ⟨_, _, _, e, _⟩ => qa0 e (by rfl) | exact fun _ _ _ ⟨_, _, _, _, e, _⟩ => qa0 e (by rfl) | exact fun _ _ _ ⟨_, _, _, _, _, e, _⟩ => qa0 e (by rfl) | exact fun _ _ _ ⟨_, _, _, _, _, _, e, _⟩ => qa0 e (by rfl) | exact fun _ _ _ ⟨_, _, _, _, _, _, _, e, _⟩ => qa0 e (by rfl) | exact fun _ _ _ ⟨_, _, _, _, _, _, _, _, e, _⟩ => qa0 e (by rfl) | exact fun _ _ _ ⟨_, _, _, _, _, _, _, _, _, e, _⟩ => qa0 e (by rfl) | exact fun _ _ _ ⟨_, _, _, _, _, _, _, _, _, _, e, _⟩ => qa0 e (by rfl)) (fun as Q E h => vcRun _ rfl rfl rfl as Q E h)
  have hIsRecord : Has S "is_record" 3 wRec := has_vc (S := S) F9 m9 b9 scIsRecord sys okIsRecord rfl rfl rfl (Known.f hIsRun (Known.f hIsListUpTo (Known.c cg1 (Known.base 2 B)))) (by first | exact fun _ _ _ ⟨_, e, _⟩ => by rw [e]; rfl | exact fun _ _ _ ⟨_, _, e, _⟩ => by rw [e]; rfl | exact fun _ _ _ ⟨_, _, _, e, _⟩ => by rw [e]; rfl | exact fun _ _ _ ⟨_, _, _, _, e, _⟩ => by rw [e]; rfl | exact fun _ _ _ ⟨_, _, _, _, _, e, _⟩ => by rw [e]; rfl | exact fun _ _ _ ⟨_, _, _, _, _, _, e, _⟩ => by rw [e]; rfl | exact fun _ _ _ ⟨_, _, _, _, _, _, _, e, _⟩ => by rw [e]; rfl | exact fun _ _ _ ⟨_, _, _, _, _, _, _, _, e, _⟩ => by rw [e]; rfl | exact fun _ _ _ ⟨_, _, _, _, _, _, _, _, _, e, _⟩ => by rw [e]; rfl | exact fun _ _ _ ⟨_, _, _, _, _, _, _, _, _, _, e, _⟩ => by rw [e]; rfl) (by first | exact fun _ _ _ ⟨_, e, _⟩ => qa0 e (by rfl) | exact fun _ _ _ ⟨_, _, e, _⟩ => qa0 e (by rfl) | exact fun _ _ _ ⟨_, _, _, e, _⟩ => qa0 e (by rfl) | exact fun _ _ _ ⟨_, _, _, _, e, _⟩ => qa0 e (by rfl) | exact fun _ _ _ ⟨_, _, _, _, _, e, _⟩ => qa0 e (by rfl) | exact fun _ _ _ ⟨_, _, _, _, _, _, e, _⟩ => qa0 e (by rfl) | exact fun _ _ _ ⟨_, _, _, _, _, _, _, e, _⟩ => qa0 e (by rfl) | exact fun _ _ _ ⟨_, _, _, _, _, _, _, _, e, _⟩ => qa0 e (by rfl) | exact fun _ _ _ ⟨_, _, _, _, _, _, _, _, _, e, _⟩ => qa0 e (by rfl) | exact fun _ _ _ ⟨_, _, _, _, _, _, _, _, _, _, e, _⟩ => qa0 e (by rfl)) (fun as Q E h => vcRec _ rfl rfl rfl as Q E h)
  exact gok_vc (S := S) (k := 5) (W := wLaw) F10 (F10.binds (ps := ["script"]) fun _ _ _ _ _ _ us hl => match us, hl with | [_], _ => rfl) scLaw sys okLaw rfl rfl rfl (Known.f hIsRecord (Known.f hLawBad (Known.f hLawDressed (Known.f hLawRecord (Known.f hLawDraw (Known.f hLawReel (Known.base 5 B))))))) (by first | exact fun _ _ _ ⟨_, e, _⟩ => by rw [e]; rfl | exact fun _ _ _ ⟨_, _, e, _⟩ => by rw [e]; rfl | exact fun _ _ _ ⟨_, _, _, e, _⟩ => by rw [e]; rfl | exact fun _ _ _ ⟨_, _, _, _, e, _⟩ => by rw [e]; rfl | exact fun _ _ _ ⟨_, _, _, _, _, e, _⟩ => by rw [e]; rfl | exact fun _ _ _ ⟨_, _, _, _, _, _, e, _⟩ => by rw [e]; rfl | exact fun _ _ _ ⟨_, _, _, _, _, _, _, e, _⟩ => by rw [e]; rfl | exact fun _ _ _ ⟨_, _, _, _, _, _, _, _, e, _⟩ => by rw [e]; rfl | exact fun _ _ _ ⟨_, _, _, _, _, _, _, _, _, e, _⟩ => by rw [e]; rfl | exact fun _ _ _ ⟨_, _, _, _, _, _, _, _, _, _, e, _⟩ => by rw [e]; rfl) (by first | exact fun _ _ _ ⟨_, e, _⟩ => qa0 e (by rfl) | exact fun _ _ _ ⟨_, _, e, _⟩ => qa0 e (by rfl) | exact fun _ _ _ ⟨_, _, _, e, _⟩ => qa0 e (by rfl) | exact fun _ _ _ ⟨_, _, _, _, e, _⟩ => qa0 e (by rfl) | exact fun _ _ _ ⟨_, _, _, _, _, e, _⟩ => qa0 e (by rfl) | exact fun _ _ _ ⟨_, _, _, _, _, _, e, _⟩ => qa0 e (by rfl) | exact fun _ _ _ ⟨_, _, _, _, _, _, _, e, _⟩ => qa0 e (by rfl) | exact fun _ _ _ ⟨_, _, _, _, _, _, _, _, e, _⟩ => qa0 e (by rfl) | exact fun _ _ _ ⟨_, _, _, _, _, _, _, _, _, e, _⟩ => qa0 e (by rfl) | exact fun _ _ _ ⟨_, _, _, _, _, _, _, _, _, _, e, _⟩ => qa0 e (by rfl)) (fun as Q E h => vcLawZ _ rfl rfl rfl rfl rfl rfl as Q E h)
end Oak
open PySem PySem.W PyProof.Rows
set_option maxHeartbeats 0 in
theorem PySem.Challenge.cw_teesizes_k08_records_judged_holds : PySem.Challenge.rw_teesizes_k08_records_judged.Holds := by
  w_on; o_law; k_head; (case hw => w_witness2)
  k_fill
  refine Tee.walkG (l := PySem.Challenge.rw_teesizes_k08_records_judged) (n := 63) (k := 6) (x := "script") (CX := fun w => L2.CX (PySem.Challenge.rw_teesizes_k08_records_judged).prog w) (sp := fun w => Oak.spW _ Oak.wLaw) rfl (by decide) rfl (by decide +kernel) ⟨rfl, by decide, by decide⟩ (fun w h Y => PySem.W.kIn_of Y) ?F (fun _ _ a ns hl hO hS => Oak.law_sp hl hO hS) (fun _ _ _ _ _ ⟨_, _, _, _, _, _, _, _, _, _, _, _, h⟩ => h)
  case F =>
    intro w mg fa h KX G hmg
    refine' Oak.all_mk KX G hmg ?a0 ?l0 ?c0 ?k0 ?a1 ?l1 ?c1 ?k1 ?a2 ?l2 ?c2 ?k2 ?a3 ?l3 ?c3 ?k3 ?a4 ?l4 ?c4 ?k4 ?a5 ?l5 ?c5 ?k5 ?a6 ?l6 ?c6 ?k6 ?a7 ?l7 ?c7 ?k7 ?a8 ?l8 ?c8 ?k8 ?a9 ?l9 ?c9 ?k9 ?a10 ?l10 ?c10 ?k10 ?kst0 ?kst1 ?z0 ?z1 ?z2 ?z3 ?z4 ?z5 ?z6 ?z7 ?z8 ?z9 ?z10 ?z11 ?z12 ?z13 ?z14 ?z15 ?z16 ?z17 ?z18 ?z19 ?z20 ?z21
    (case a0 => k_is); (case l0 => k_is); (case c0 => k_is); (case k0 => k_is); (case a1 => k_is); (case l1 => k_is); (case c1 => k_is); (case k1 => k_is); (case a2 => k_is); (case l2 => k_is); (case c2 => k_is); (case k2 => k_is); (case a3 => k_is); (case l3 => k_is); (case c3 => k_is); (case k3 => k_is); (case a4 => k_is); (case l4 => k_is); (case c4 => k_is); (case k4 => k_is); (case a5 => k_is); (case l5 => k_is); (case c5 => k_is); (case k5 => k_is); (case a6 => k_is); (case l6 => k_is); (case c6 => k_is); (case k6 => k_is); (case a7 => k_is); (case l7 => k_is); (case c7 => k_is); (case k7 => k_is); (case a8 => k_is); (case l8 => k_is); (case c8 => k_is); (case k8 => k_is); (case a9 => k_is); (case l9 => k_is); (case c9 => k_is); (case k9 => k_is); (case a10 => k_is); (case l10 => k_is); (case c10 => k_is); (case k10 => k_is); (case kst0 => k_is); (case kst1 => k_is); (case z0 => k_is); (case z1 => k_is); (case z2 => k_is); (case z3 => k_is); (case z4 => k_is); (case z5 => k_is); (case z6 => k_is); (case z7 => k_is); (case z8 => k_is); (case z9 => k_is); (case z10 => k_is); (case z11 => k_is); (case z12 => k_is); (case z13 => k_is); (case z14 => k_is); (case z15 => k_is); (case z16 => k_is); (case z17 => k_is); (case z18 => k_is); (case z19 => k_is); (case z20 => k_is); (case z21 => k_is)
