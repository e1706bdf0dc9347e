import PyProof.Rows.All
import Wide.All
import OpenK.AllK
import Wide.FinOn
import PyProof.EqAt
import PyProof.EqKinds
import PyProof.TupleCall
import PyProof.ReprRoads
import HandS.Base
import HandS.Call
import HandS.List
import HandS.Comp
import HandS.Ends
import HandS.Words
import HandS.WordsList
import HandS.IsInst
import HandS.Style
import HandS.TupMul
import HandS.Wide
import HandS.Dict
import HandS.TupAny
import HandS.Iter
import HandS.Zip
import HandS.NoneIn
import HandS.SetFor
import HandS.SortInts
import HandS.Conv
import PySem.Challenge.RW_teesizes_k07_whole_ranks_and_histories
set_option Elab.async false
set_option linter.all false
set_option maxRecDepth 100000
set_option maxHeartbeats 4000000
/-! part A: repr of data; defs that are run while no repr is under way -/
namespace Tee
open PySem PySem.Spec PyProof.Rows L2

/-! ### values that are data, dicts too -/
mutual
inductive Dd (H : Hp) : V → PyData → Prop
  | non : Dd H .non .none
  | bl (b : Bool) : Dd H (.bl b) (.bool b)
  | int (i : Int) : Dd H (.int i) (.int i)
  | str (x : Str) : Dd H (.str x) (.str x)
  | lst {a : Addr} {xs : List V} {ds : List PyData} (h : H a = some (.lst xs)) (r : DdAll H xs ds) : Dd H (.ref a) (.list ds)
  | tup {a : Addr} {xs : List V} {ds : List PyData} (h : H a = some (.tup xs)) (r : DdAll H xs ds) : Dd H (.ref a) (.tuple ds)
  | dct0 {a : Addr} (h : H a = some (.dK [])) : Dd H (.ref a) (.dict [])
  | dct1 {a : Addr} {x : Str} {i : Int} (h : H a = some (.dK [(.inr x, .int i)])) : Dd H (.ref a) (.dict [(.str x, .int i)])
inductive DdAll (H : Hp) : List V → List PyData → Prop
  | nil : DdAll H [] []
  | cons {v : V} {vs : List V} {d : PyData} {ds : List PyData} (h : Dd H v d) (t : DdAll H vs ds) : DdAll H (v :: vs) (d :: ds)
end
mutual
theorem Dd.mono {H H' : Hp} (e : Same H H') : ∀ (d : PyData) (v : V), Dd H v d → Dd H' v d
  | .none, _, h => by cases h; exact .non
  | .bool b, _, h => by cases h; exact .bl b
  | .int i, _, h => by cases h; exact .int i
  | .str x, _, h => by cases h; exact .str x
  | .list ds, _, h => by
    cases h with
    | lst h r => exact .lst (e _ _ h) (DdAll.mono e ds _ r)
  | .tuple ds, _, h => by
    cases h with
    | tup h r => exact .tup (e _ _ h) (DdAll.mono e ds _ r)
  | .dict kvs, _, h => by
    cases h with
    | dct0 h => exact .dct0 (e _ _ h)
    | dct1 h => exact .dct1 (e _ _ h)
theorem DdAll.mono {H H' : Hp} (e : Same H H') : ∀ (ds : List PyData) (vs : List V), DdAll H vs ds → DdAll H' vs ds
  | [], _, h => by cases h; exact .nil
  | d :: ds, _, h => by
    cases h with
    | cons h t => exact .cons (Dd.mono e d _ h) (DdAll.mono e ds _ t)
end
/-- the table of modules stands in the base -/
def SysAt (base : Heap) : Prop := ∃ mm, base.Ns sysModules mm
theorem kV_is' {x : Str} {v : Value} (h : keyIs (.inr x) v = true) : ∃ t, v = Value.str x t := by
  rcases keyIs_shape h with ⟨i, t, z, _⟩ | ⟨y, t, z, rfl⟩
  · cases z
  · cases z
    exact ⟨t, rfl⟩
section
variable {X : Cx} {pins : List (Addr × Obj)} {σ : L2.St} {H : Hp} {s : Shared}
theorem seq_ne_sys (hs : SysAt X.base) (I : Inv X pins σ H s) {a : Addr} {o : Obj} {its : Array Value} {n : Nat} (h : s.heap.get? a = some o) (hd : o.data = .seq its n) : sysModules ≠ a := fun e => by
  obtain ⟨mm, o', es, ep, h1, h2, _⟩ := hs
  have h3 := I.bk _ _ h1
  rw [e, h] at h3
  cases h3
  rw [hd] at h2
  cases h2
mutual
theorem Dd.reads (hs : SysAt X.base) (I : Inv X pins σ H s) : ∀ (d : PyData) (v : V) (u : Value), Dd H v d → RelV v u → ∃ as, Reads s.heap u d as ∧ sysModules ∉ as
  | .none, _, u, h, r => by
    cases h
    cases (show u = Value.none from r)
    exact ⟨_, .none, by simp⟩
  | .bool b, _, u, h, r => by
    cases h
    cases (show u = Value.bool b from r)
    exact ⟨_, .bool b, by simp⟩
  | .int i, _, u, h, r => by
    cases h
    obtain ⟨t, q⟩ := (show ∃ t, u = Value.int i t from r)
    cases q
    exact ⟨_, .int i t, by simp⟩
  | .str x, _, u, h, r => by
    cases h
    obtain ⟨t, q⟩ := (show ∃ t, u = Value.str x t from r)
    cases q
    exact ⟨_, .str x t, by simp⟩
  | .list ds, _, u, h, r => by
    cases h with
    | @lst a xs _ hl ha =>
      cases (show u = Value.ref a from r)
      obtain ⟨its, rv, ⟨o, n, e, hc, _, hd⟩, _⟩ := I.list (SqL.of hl)
      obtain ⟨as, q, na⟩ := DdAll.reads hs I ds _ its ha rv
      exact ⟨_, .list e hc hd q, by simp only [List.mem_cons, not_or]; exact ⟨seq_ne_sys hs I e hd, na⟩⟩
  | .tuple ds, _, u, h, r => by
    cases h with
    | @tup a xs _ hl ha =>
      cases (show u = Value.ref a from r)
      obtain ⟨its, rv, ⟨o, e, hc, n, hd⟩, _⟩ := I.tuple (SqT.of hl)
      obtain ⟨as, q, na⟩ := DdAll.reads hs I ds _ its ha rv
      exact ⟨_, .tuple e hc hd q, na⟩
  | .dict kvs, _, u, h, r => by
    cases h with
    | @dct0 a h =>
      cases (show u = Value.ref a from r)
      obtain ⟨_, ns, vs, kv, o, es, ep, e, ex, hd, _, ps, _⟩ := (show ObjOk X.prog X.w H s.heap a (.dK []) from I.hok a _ h)
      cases kv
      have e0 : es.toList = [] := by
        generalize es.toList = l at ps
        cases ps
        rfl
      refine ⟨_, .dict (kvs := []) e ex.1 hd (by rw [e0]; exact .nil) (by rw [e0]; exact .nil), ?_⟩
      simp only [List.append_nil, List.mem_cons, List.not_mem_nil, or_false]
      exact fun z => by rw [← z] at ns; simp at ns
    | @dct1 a x i h =>
      cases (show u = Value.ref a from r)
      obtain ⟨_, ns, vs, kv, o, es, ep, e, ex, hd, _, ps, _⟩ := (show ObjOk X.prog X.w H s.heap a (.dK [(.inr x, .int i)]) from I.hok a _ h)
      cases kv with
      | @cons _ q _ qs hq t =>
        cases t
        obtain ⟨k, w⟩ := q
        obtain ⟨hk, hw⟩ := hq
        simp only at hk hw
        subst hk
        obtain ⟨tt, rfl⟩ := (show ∃ t, w = Value.int i t from hw)
        have e0 : ∃ en : DictEntry, es.toList = [en] ∧ keyIs (.inr x) en.key = true ∧ en.val = Value.int i tt := by
          generalize es.toList = l at ps
          cases ps with
          | cons h1 h2 h3 =>
            cases h3
            exact ⟨_, rfl, h1, h2⟩
        obtain ⟨en, e0, e1, e2⟩ := e0
        obtain ⟨tk, e3⟩ : ∃ t, en.key = Value.str x t := kV_is' e1
        have rk : ReadsAll s.heap (es.toList.map (·.key)) [PyData.str x] ([] ++ []) := by
          rw [e0]
          show ReadsAll s.heap [en.key] [PyData.str x] ([] ++ [])
          rw [e3]
          exact .cons (.str x tk) .nil
        have rl : ReadsAll s.heap (es.toList.map (·.val)) [PyData.int i] ([] ++ []) := by
          rw [e0]
          show ReadsAll s.heap [en.val] [PyData.int i] ([] ++ [])
          rw [e2]
          exact .cons (.int i tt) .nil
        refine ⟨_, .dict (kvs := [(.str x, .int i)]) e ex.1 hd rk rl, ?_⟩
        simp only [List.append_nil, List.mem_cons, List.not_mem_nil, or_false]
        exact fun z => by rw [← z] at ns; simp at ns
theorem DdAll.reads (hs : SysAt X.base) (I : Inv X pins σ H s) : ∀ (ds : List PyData) (vs : List V) (us : List Value), DdAll H vs ds → Vals vs us → ∃ as, ReadsAll s.heap us ds as ∧ sysModules ∉ as
  | [], _, us, h, r => by
    cases h
    cases r
    exact ⟨_, .nil, by simp⟩
  | d :: ds, _, us, h, r => by
    cases h with
    | cons h t =>
      cases r with
      | cons r1 r2 =>
        obtain ⟨as, q1, n1⟩ := Dd.reads hs I d _ _ h r1
        obtain ⟨bs, q2, n2⟩ := DdAll.reads hs I ds _ _ t r2
        exact ⟨_, .cons q1 q2, by simp only [List.mem_append, not_or]; exact ⟨n1, n2⟩⟩
end
end
/-- repr(e), e data -/
def rRepr : List V → Hp → VK → Prop := fun xs H Q => ∃ (a : Addr) (d : PyData), xs = [.ref a] ∧ Dd H (.ref a) d ∧ d.showable = true ∧ d.depth ≤ 60 ∧ d.shown.length ≤ sizeLine ∧ Q (.str d.shown) H
theorem call_repr_data {X : Cx} (hs : SysAt X.base) (hg : X.A.guards = some []) (hu : X.A.units + 64 < cLine) : CallR X (.builtin "repr") rRepr := by
  intro pins s σ H xs us Q I r h
  obtain ⟨a, d, rfl, hd, sh, dp, hz, q⟩ := h
  obtain ⟨u, rfl, r1⟩ := vals1 r
  obtain ⟨as, rd, na⟩ := Dd.reads hs I d _ _ hd r1
  cases (show u = Value.ref a from r1)
  refine PySem.repr_of_reads' rd sh (fun _ => na) hg (by omega) (fun _ _ e => e) (fun h' u tk hk => ?_) hz
  exact ⟨.str d.shown, H, I.kept hk, ⟨_, rfl⟩, q⟩

/-! ### defs that are run while no repr is under way -/
section
variable {P : Program} {w : World} {K : PySem.W.Frag} {mg : Str → Option Value} {base : Heap} {CX : CXT}
structure Gok (P : Program) (w : World) (K : PySem.W.Frag) (mg : Str → Option Value) (base : Heap) (CX : CXT) (k : Nat) (f : Addr) (fd : FuncData) (ps : List Str) (sp : Sp) : Prop where
  len : ∀ vs H Q E, sp vs H Q E → vs.length = ps.length
  go : ∀ (B : Around) (above : List Env) (t : Shared) (H : Hp) (ar : Args) (us : List Value) (vs : List V) (Q : VK) (E : XK),
    B.guards = some [] → Room k B → Env0 P w K mg base B above t H → BindsTo t fd ar (ps.zip us) → Vals vs us → sp vs H Q E →
    codeAny (model P w) B (.call (.ref f) ar) (CR CX above P w H t Q E) t
theorem Gok.of {k : Nat} {f : Addr} {fd : FuncData} {ps : List Str} {sp : Sp} (F : FnOk P w K mg base CX k f fd ps sp) : Gok P w K mg base CX k f fd ps sp :=
  ⟨F.len, fun B above t H ar us vs Q E _ hr e hb r h => F.run B above t H ar us vs Q E hr e hb r h⟩
theorem g_of {k : Nat} {f : Addr} {name qual : Str} {params : Arguments} {body : List Stmt} {scope : Scope} {dV kV doc pm cdv ct oc : Value} {an od : Option Addr}
    {osl : Array (Option Value)} {N ps : List Str} {sp : Sp}
    (lk : K.lookup f = some ⟨oc, od, .func (PySem.W.fnOf name qual params body scope dV kV doc pm an cdv ct), osl⟩)
    (cd : PySem.W.codeIn K cdv qual = true) (S : FnScope N ps scope) (len : ∀ vs H Q E, sp vs H Q E → vs.length = ps.length)
    (hb : ∀ (B : Around) (above : List Env) (t : Shared) (H : Hp) (vs : List V) (Q : VK) (E : XK), B.guards = some [] →
      Room k (B.deeper (envOfC qual scope t.heap.objs.size f cdv)) → sp vs H Q E →
      ∃ rd, PSs (cxOf CX P w K mg base N qual scope f cdv B above t H E) body rd ∧ rd { nx := fun _ H' => Q .non H', rt := Q } (start N vs) H) :
    Gok P w K mg base CX (k + 1) f (PySem.W.fnOf name qual params body scope dV kV doc pm an cdv ct) ps sp := by
  refine ⟨len, fun B above t H ar us vs Q E hg hr e0 hbd r hsp => ?_⟩
  have hln := len _ _ _ _ hsp
  have KT : K.In t.heap := e0.mod.kin.keeps fun b o z => (e0.bs b o z).1
  have nol : t.heap.NoLimit := e0.mod.nolimit.keeps fun b o z => (e0.bs b o z).1
  refine codeAny_call_function hr.depth (KT _ _ lk) rfl S.co S.gen rfl (PySem.W.codeRec_of KT cd) (hbd _ _ _ _ ?_)
  refine wpAny_newFunctionEnv_cells S.kind (fun y hy => ?_) fun env he t1 x => ?_
  · obtain ⟨n, v⟩ := y
    exact (S.par n (List.of_mem_zip hy).1).elim .inl fun q => .inr ⟨q, PySem.W.cellsFrom_some _ _ _ (.inl q)⟩
  · subst he
    refine ⟨nol.keeps x.toInCall.keep, codeAny_func ?_⟩
    obtain ⟨rd, hrd, hq⟩ := hb B above t H vs Q E hg (hr.deeper _) hsp
    have I := inv_start (CX := CX) (E := E) S hr.hd e0 hln r x
    refine wpAny_mono (hrd.run [] t1 (start N vs) H _ I hq) (fun fl t' ht => ?_) fun e t' ht => ht
    cases fl with
    | ret u =>
      obtain ⟨v, σ', H', J, rv, q⟩ := ht
      exact ⟨v, H', J.os, J.bare, J.base, J.hok, rv, q⟩
    | next =>
      obtain ⟨σ', H', J, q⟩ := ht
      exact ⟨V.non, H', J.os, J.bare, J.base, J.hok, rfl, q⟩
    | brk => exact ht.elim fun _ z => z.elim fun _ z => z.2.elim
    | cont => exact ht.elim fun _ z => z.elim fun _ z => z.2.elim
end
section
variable {X : Cx} {CX : CXT} {k : Nat} {f : Addr} {fd : FuncData} {ps : List Str} {sp : Sp} {dvs : List V} {ds : List Value} {E : XK} {x : Str} {p pos : Pos} {e : Expr} {es : List Expr} {t : TA}
theorem pe_callG (hg : X.A.guards = some []) (F : Gok X.prog X.w X.K X.mg X.base CX k f fd ps sp) (hr : Room k X.A) (gl : Gl X x) (hm : X.mg x = some (.ref f))
    (hk : PySem.W.keepIn X.K (.ref f) = true) (hb : Binds X.K fd ps ds) (hd : Vals dvs ds) (hx : Passes CX X E) (ha : PA X (e :: es) t)
    (hdb : (x == ("__debug__" : Str)) = false := by decide) (he : starEach (e :: es) X.env = (false, eval e X.env) :: starEach es X.env := by rfl)
    (hpl : (backTo pos (starEach es X.env)).any (·.1) = false := by rfl) : PE X (.Call (.Name x p) (e :: es) [] pos) (tCall sp dvs E t) := by
  refine ⟨fun pins s σ H Q I h => wpAny_Call_Name_kw (ld_glob I gl hm ?_ hdb)⟩
  refine PySem.W.callWith_K (h₀ := X.base) I.ok.mod.kin hk (thn (ha.run pos pins s σ H _ I h) fun us s1 ⟨vs, H1, I1, r, q⟩ => ⟨I1.kIn, ?_⟩) he hpl
  have r2 := r.append hd
  have hl : (us ++ ds).length = ps.length := r2.length ▸ F.len _ _ _ _ q
  refine wpAny_call (codeAny_mono (F.go X.A X.stack s1 H1 ⟨us, []⟩ (us ++ ds) (vs ++ dvs) Q E hg hr I1.env0 (hb s1 us I1.kIn hl) r2 q) fun res s' hq => ?_)
  cases res with
  | error e => exact hx pins σ H1 s1 e s' I1 hq
  | ok fl =>
    cases fl with
    | ret u => exact I1.after hq
    | next => exact hq.elim
    | brk => exact hq.elim
    | cont => exact hq.elim
end

/-! ### the law's end -/
theorem lawG {P : Program} {w : World} {K : PySem.W.Frag} {mg mb : Str → Option Value} {CX : CXT} {k : Nat} {fa a : Addr} {fd : FuncData} {x : Str} {sp : Sp} {t : Shared} {vs : List Value} {ns : List Int}
    (KT : K.In t.heap) (hns : t.heap.Ns mainGlobals mg) (hb : t.heap.Ns builtinsNs mb) (hbb : ∀ x : Str, x ≠ "__name__" → mb x = bootBuiltins x) (nol : t.heap.NoLimit) (sy : SysAt t.heap)
    (hg : t.gens = #[]) (ha : t.heap.get? a = some { cls := .type "list", data := .seq vs.toArray }) (hi : IntsAre vs ns) (hl : ns.length ≤ sizeLine) (hr : Room k callerA)
    (F : ∀ base : Heap, K.In base → base.Ns mainGlobals mg → SysAt base → Gok P w K mg base CX k fa fd [x] sp) (hbind : ∀ (s : Shared) (u : Value), BindsTo s fd ⟨[u], []⟩ [(x, u)])
    (hsp : ∀ H : Hp, Only H → SqL K H a (ns.map V.int) → sp [.ref a] H (fun v _ => v = .bl true) fun _ _ _ => False)
    (hCX : ∀ H e s', CX [] H t (fun _ _ _ => False) e s' → False) :
    codeAny (model P w) callerA (.call (.ref fa) ⟨[.ref a], []⟩)
      (fun r s' => r = .ok (.ret (.bool true)) ∧ OldK t.heap s'.heap ∧ s'.os = t.os ∧ AllBare s'.gens) t := by
  have rv := vals_ints hi
  have lv := hi.length
  have main : ∀ H : Hp, Only H → SqL K H a (ns.map V.int) → HOk P w H t.heap → (∀ b, H b ≠ none → b = a) → (H a ≠ none → K.lookup a = none) →
      codeAny (model P w) callerA (.call (.ref fa) ⟨[.ref a], []⟩)
        (fun r s' => r = .ok (.ret (.bool true)) ∧ OldK t.heap s'.heap ∧ s'.os = t.os ∧ AllBare s'.gens) t := by
    intro H hO hS hok hA hK
    have none_of : ∀ {b : Addr} {o : Obj}, (b = a → False) → t.heap.get? b = some o → H b = none := fun {b o} q _ => by
      cases z : H b with
      | none => rfl
      | some u => exact (q (hA b (by rw [z]; simp))).elim
    have ns_none : ∀ {b : Addr} {m : Str → Option Value}, t.heap.Ns b m → (hidT t.heap H).Ns b m := fun {b m} ⟨o, es, ep, e, d, r⟩ =>
      ⟨o, es, ep, hidT_get e (none_of (fun q => by subst q; rw [ha] at e; cases e; cases d) e), d, r⟩
    have hKb : K.In (hidT t.heap H) := fun b o e => hidT_get (KT b o e) (by
      cases z : H b with
      | none => rfl
      | some u =>
        have q : b = a := hA b (by rw [z]; simp)
        subst q
        rw [hK (by rw [z]; simp)] at e
        cases e)
    have hM : Mod K mg (hidT t.heap H) := ⟨hKb, ns_none hns, ⟨mb, ns_none hb, hbb⟩, nol.elim fun mc z => ⟨mc, ns_none z.1, z.2⟩⟩
    have e0 : Env0 P w K mg (hidT t.heap H) callerA [] t H :=
      ⟨rfl, hM, fun b o e => of_hidT e, Nat.le_of_eq (hidT_size _ _), trivial, fun b hb => absurd (show b ∈ ([] : List Addr) from hb) (by simp), hok, .of_eq hg⟩
    have g := (F _ hKb (ns_none hns) (sy.elim fun mm z => ⟨mm, ns_none z⟩)).go callerA [] t H ⟨[.ref a], []⟩ [.ref a] [.ref a] _ _ rfl hr e0 (hbind t (.ref a)) (.cons rfl .nil) (hsp H hO hS)
    refine codeAny_mono g fun r s' h => ?_
    cases r with
    | error e => exact (hCX H e s' h).elim
    | ok fl =>
      cases fl with
      | next => exact h.elim
      | brk => exact h.elim
      | cont => exact h.elim
      | ret u =>
        obtain ⟨v, H', os, bare, un, hok', r', q⟩ := h
        cases (show v = .bl true from q)
        cases (show u = Value.bool true from r')
        refine ⟨rfl, OldK.of_keep fun b o e => ?_, os, bare⟩
        cases z : H b with
        | none => exact un.keep b o e z (fun y => absurd (show b ∈ ([] : List Addr) from y) (by simp)) (by simp)
        | some u =>
          rcases hO b with y | ⟨ob, xs, y⟩
          · rw [z] at y
            cases y
          · have e1 := (hok b _ y).1
            have e2 := (hok' b _ (un.frzs b ob _ y)).1
            rw [e] at e1
            cases e1
            exact e2
  cases hk : K.lookup a with
  | some o =>
    have e := KT a o hk
    rw [ha] at e
    cases e
    have nn : ∀ b : Addr, (fun _ => none : Hp) b = none := fun _ => rfl
    exact main (fun _ => none) (fun _ => .inl rfl) (.inr ⟨_, vs.toArray, _, hk, rfl, rfl, rfl, by rw [List.size_toArray, lv]; exact hl, by simpa using rv⟩)
      (fun b u z => by have z' := (nn b).symm.trans z; cases z') (fun b z => (z (nn b)).elim) (fun z => (z (nn a)).elim)
  | none =>
    have at_a : (fun b => if b = a then some (.frz { cls := .type "list", data := .seq vs.toArray } (.lst (ns.map V.int))) else none : Hp) a =
        some (.frz { cls := .type "list", data := .seq vs.toArray } (.lst (ns.map V.int))) := if_pos rfl
    have off : ∀ b, b ≠ a → (fun b => if b = a then some (.frz { cls := .type "list", data := .seq vs.toArray } (.lst (ns.map V.int))) else none : Hp) b = none := fun b q => if_neg q
    refine main (fun b => if b = a then some (.frz { cls := .type "list", data := .seq vs.toArray } (.lst (ns.map V.int))) else none) (fun b => ?_)
      (.inl (.inr ⟨_, at_a⟩)) (fun b u z => ?_) (fun b z => ?_) fun _ => hk
    · by_cases q : b = a
      · subst q
        exact .inr ⟨_, _, at_a⟩
      · exact .inl (off b q)
    · by_cases q : b = a
      · subst q
        rw [at_a] at z
        cases z
        exact ⟨ha, by rw [List.length_map]; exact hl, vs, _, rv, ha⟩
      · rw [off b q] at z
        cases z
    · by_cases q : b = a
      · exact q
      · exact (z (off b q)).elim
theorem walkG {l : PySem.W.OpenLaw} {n k : Nat} {q : Program} {loose : List Str} {XP : (Str → Option Value) → Heap → Prop} {YP : World → Heap → Prop} {d : DefRec} {K : Params → PySem.W.Frag} {CX : World → CXT} {sp : World → Sp} {x : Str}
    (hn : l.most = some n) (hn2 : n ≤ sizeLine) (hdf : d.params.defaults = []) (him : importsNone q = true) (hr : Room k callerA)
    (hY : ∀ (w : World) (h : Heap), YP w h → (K w.params).In h)
    (F : ∀ (w : World) (mg : Str → Option Value) (fa : Addr) (h : Heap), (K w.params).In h → h.Ns mainGlobals mg → mg d.name = some (.ref fa) →
      ∃ fd : FuncData, (∀ (s : Shared) (u : Value), BindsTo s fd ⟨[u], []⟩ [(x, u)]) ∧
        ∀ base : Heap, (K w.params).In base → base.Ns mainGlobals mg → SysAt base → Gok l.prog w (K w.params) mg base (CX w) k fa fd [x] (sp w))
    (hsp : ∀ (w : World) (H : Hp) (a : Addr) (ns : List Int), ns.length ≤ n → Only H → SqL (K w.params) H a (ns.map V.int) → sp w [.ref a] H (fun v _ => v = .bl true) fun _ _ _ => False)
    (hCX : ∀ (w : World) (H : Hp) (s : Shared) (e : Value) (s' : Shared), CX w [] H s (fun _ _ _ => False) e s' → False) :
    PySem.W.WalkO q loose XP YP l.row.toRowW d [] (fun f vs => PySem.call f vs) := by
  refine Att.attach_call hn hdf fun w s₀ t mg mb fa o pm cd doc a vs ns G Y ho hd hcd hmg hobj hints hlen hg => ?_
  obtain ⟨fd, hb, hF⟩ := F w mg fa _ (hY w _ Y) G.T.g hmg
  exact lawG (hY w _ Y) G.T.g G.T.b G.T.builtins G.T.nolimit (let ⟨mm, z, _⟩ := (G.T.seer him).mods; ⟨mm, z⟩) hg hobj hints (Nat.le_trans hlen hn2) hr hF hb (fun H hO hS => hsp w H a ns hlen hO hS) fun H e s' => hCX w H t e s'
end Tee

/-! part B: what a body does, said of values alone -/
namespace Tee
open PySem PySem.Spec PyProof.Rows L2

/-! ### heaps in three parts: G stands still, R is the reel's, the rest is the def's own -/
/-- the reel: [great, extras, turn, stir] -/
def ReelAt (R : Hp) (r : Addr) : Prop := ∃ (g e : Addr) (gs es : List Int) (c z : Int),
  R r = some (.lst [.ref g, .ref e, .int c, .int z]) ∧ R g = some (.lst (gs.map V.int)) ∧ R e = some (.lst (es.map V.int)) ∧
  (∀ x ∈ gs, 0 ≤ x) ∧ gs.length ≤ 63 ∧ 0 < es.length ∧ es.length ≤ 64 ∧ (∀ x ∈ es, 0 ≤ x ∧ x < 1000003) ∧ 0 ≤ c ∧ 0 ≤ z ∧ z < 2 ^ 140
structure Wd (G R H : Hp) : Prop where
  gh : Same G H
  rh : Same R H
  dis : ∀ b o, R b = some o → G b = none
structure Stp (G R H G2 R2 H2 : Hp) : Prop where
  wd : Wd G2 R2 H2
  keep : ∀ b o, R b = none → H b = some o → H2 b = some o
  dom : ∀ b o, H b = some o → ∃ u, H2 b = some u
  gg : Same G G2
  gnew : ∀ b o, G2 b = some o → G b = none → H b = none
  rnew : ∀ b o, R2 b = some o → R b = none → H b = none
  rel : ∀ r, ReelAt R r → ReelAt R2 r
theorem Stp.refl {G R H : Hp} (w : Wd G R H) : Stp G R H G R H where
  wd := w
  keep := fun _ _ _ e => e
  dom := fun _ o e => ⟨o, e⟩
  gg := Same.refl G
  gnew := fun b o e n => by rw [n] at e; cases e
  rnew := fun b o e n => by rw [n] at e; cases e
  rel := fun _ h => h
theorem Stp.trans {G R H G2 R2 H2 G3 R3 H3 : Hp} (a : Stp G R H G2 R2 H2) (b : Stp G2 R2 H2 G3 R3 H3) : Stp G R H G3 R3 H3 where
  wd := b.wd
  keep := fun x o n e => b.keep x o (by
    cases q : R2 x with
    | none => rfl
    | some u => have := a.rnew x u q n; rw [e] at this; cases this) (a.keep x o n e)
  dom := fun x o e => let ⟨u, q⟩ := a.dom x o e; b.dom x u q
  gg := a.gg.trans b.gg
  gnew := fun x o e n => by
    cases q : G2 x with
    | some u => exact a.gnew x u q n
    | none =>
      have h2 := b.gnew x o e q
      cases q1 : H x with
      | none => rfl
      | some u => obtain ⟨u2, z⟩ := a.dom x u q1; rw [h2] at z; cases z
  rnew := fun x o e n => by
    cases q : R2 x with
    | some u => exact a.rnew x u q n
    | none =>
      have h2 := b.rnew x o e q
      cases q1 : H x with
      | none => rfl
      | some u => obtain ⟨u2, z⟩ := a.dom x u q1; rw [h2] at z; cases z
  rel := fun r h => b.rel r (a.rel r h)
/-- a new object that stands still from now on -/
theorem Stp.new {G R H : Hp} (w : Wd G R H) {p : Addr} {o : HO} (hp : H p = none) : Stp G R H (upd G p o) R (upd H p o) := by
  have np : ∀ b u, H b = some u → b ≠ p := fun b u e => ne_of_none e hp
  refine ⟨⟨fun b u e => ?_, fun b u e => ?_, fun b u e => ?_⟩, fun b u _ e => ?_, fun b u e => ⟨u, ?_⟩, fun b u e => ?_, fun b u e n => ?_, fun b u e n => ?_, fun _ h => h⟩
  · by_cases q : b = p
    · subst q; rw [upd_same] at e ⊢; exact e
    · rw [upd_ne q] at e ⊢; exact w.gh b u e
  · rw [upd_ne (np b u (w.rh b u e))]; exact w.rh b u e
  · rw [upd_ne (np b u (w.rh b u e))]; exact w.dis b u e
  · rw [upd_ne (np b u e)]; exact e
  · rw [upd_ne (np b u e)]; exact e
  · rw [upd_ne (np b u (w.gh b u e))]; exact e
  · by_cases q : b = p
    · subst q; exact hp
    · rw [upd_ne q, n] at e; cases e
  · rw [n] at e; cases e

/-! ### values of the names -/
/-- objects of this def's own, which it may change: lists of data; dicts of data; lists some items of which are lists of its own -/
inductive OwnO where
  | lst (xs : List PyData)
  | dct (kvs : List (Key × PyData))
  | nst (as : List Addr) (its : List (PyData ⊕ List PyData))
inductive SV where
  /-- data that stands still -/
  | dat (d : PyData)
  /-- an object of this def's own -/
  | obj (o : OwnO)
  /-- the reel -/
  | rel
  /-- the script -/
  | scr (ns : List Int)
abbrev SV.own (xs : List PyData) : SV := .obj (.lst xs)
abbrev Rho := List (Option SV)
/-- the script: known to the object, or written -/
def ScrL (K : PySem.W.Frag) (G : Hp) (a : Addr) (xs : List V) : Prop := (∃ o, G a = some (.frz o (.lst xs))) ∨ SqL K (fun _ => none) a xs
theorem ScrL.mono {K : PySem.W.Frag} {G G' : Hp} {a : Addr} {xs : List V} (e : Same G G') (h : ScrL K G a xs) : ScrL K G' a xs := h.elim (fun ⟨o, z⟩ => .inl ⟨o, e _ _ z⟩) .inr
theorem ScrL.seq {K : PySem.W.Frag} {G : Hp} {a : Addr} {xs : List V} (h : ScrL K G a xs) : SqL K G a xs := h.elim (fun ⟨o, z⟩ => .inl (.inr ⟨o, z⟩)) fun z => Same.seq (fun b o q => absurd (show (none : Option HO) = some o from q) (by simp)) z
def foot : OwnO → V → List Addr
  | .lst _, .ref l => [l]
  | .dct _, .ref l => [l]
  | .nst as _, .ref _ => as
  | _, _ => []
def NstAll (G H : Hp) : List V → List (PyData ⊕ List PyData) → List Addr → Prop
  | [], [], [] => True
  | v :: vs, .inl d :: its, fps => Dd G v d ∧ NstAll G H vs its fps
  | v :: vs, .inr xs :: its, p :: fps => v = .ref p ∧ (∃ ws, H p = some (.lst ws) ∧ DdAll G ws xs) ∧ NstAll G H vs its fps
  | _, _, _ => False
theorem NstAll.mono {G G' H H' : Hp} (sm : Same G G') : ∀ (its : List (PyData ⊕ List PyData)) (vs : List V) (fps : List Addr), (∀ a ∈ fps, H' a = H a) → NstAll G H vs its fps → NstAll G' H' vs its fps
  | [], [], [], _, _ => trivial
  | .inl d :: its, v :: vs, fps, hh, h => by
    cases fps <;> exact ⟨Dd.mono sm _ _ h.1, NstAll.mono sm its vs _ hh h.2⟩
  | .inr xs :: its, v :: vs, p :: fps, hh, h => by
    obtain ⟨h1, ⟨ws, h2, h3⟩, h4⟩ := h
    exact ⟨h1, ⟨ws, by rw [hh p (by simp)]; exact h2, DdAll.mono sm _ _ h3⟩, NstAll.mono sm its vs fps (fun a ha => hh a (List.mem_cons_of_mem _ ha)) h4⟩
  | [], [], _ :: _, _, h => h.elim
  | [], _ :: _, [], _, h => h.elim
  | [], _ :: _, _ :: _, _, h => h.elim
  | .inl _ :: _, [], [], _, h => h.elim
  | .inl _ :: _, [], _ :: _, _, h => h.elim
  | .inr _ :: _, [], [], _, h => h.elim
  | .inr _ :: _, [], _ :: _, _, h => h.elim
  | .inr _ :: _, _ :: _, [], _, h => h.elim
def OwnAt (G H : Hp) : OwnO → V → Prop
  | .lst xs, .ref l => ∃ vs, H l = some (.lst vs) ∧ DdAll G vs xs
  | .dct kvs, .ref l => ∃ es : List (Key × V), H l = some (.dK es) ∧ es.map (·.1) = kvs.map (·.1) ∧ DdAll G (es.map (·.2)) (kvs.map (·.2))
  | .nst as its, .ref l => ∃ vs fps, as = l :: fps ∧ as.Nodup ∧ H l = some (.lst vs) ∧ NstAll G H vs its fps
  | _, _ => False
theorem OwnAt.mono {G G' H H' : Hp} (sm : Same G G') {o : OwnO} {v : V} (hh : ∀ a ∈ foot o v, H' a = H a) (h : OwnAt G H o v) : OwnAt G' H' o v := by
  cases v with
  | ref l =>
    cases o with
    | lst xs =>
      obtain ⟨vs, h1, h2⟩ := h
      exact ⟨vs, by rw [hh l (by simp [foot])]; exact h1, DdAll.mono sm _ _ h2⟩
    | dct kvs =>
      obtain ⟨es, h1, h2, h3⟩ := h
      exact ⟨es, by rw [hh l (by simp [foot])]; exact h1, h2, DdAll.mono sm _ _ h3⟩
    | nst as its =>
      obtain ⟨vs, fps, e, nd, h1, h2⟩ := h
      have hh' : ∀ a ∈ as, H' a = H a := hh
      exact ⟨vs, fps, e, nd, by rw [hh' l (by rw [e]; simp)]; exact h1, NstAll.mono sm _ _ _ (fun a ha => hh' a (by rw [e]; exact List.mem_cons_of_mem _ ha)) h2⟩
  | _ => cases o <;> exact h.elim
/-- places that are the frame's own -/
def Free (H0 G R H : Hp) (a : Addr) : Prop := G a = none ∧ R a = none ∧ H0 a = none ∧ ∃ u, H a = some u
def SlotR (K : PySem.W.Frag) (H0 G R H : Hp) : Option SV → Option (Option V) → Prop
  | none, _ => True
  | some (.dat d), some (some v) => Dd G v d
  | some (.obj o), some (some v) => OwnAt G H o v ∧ ∀ a ∈ foot o v, Free H0 G R H a
  | some .rel, some (some (.ref r)) => ReelAt R r
  | some (.scr ns), some (some (.ref a)) => ScrL K G a (ns.map V.int)
  | _, _ => False
theorem slot_heap {K : PySem.W.Frag} {H0 G R H H' : Hp} {q : Option SV} {x : Option (Option V)} (n : ∀ o, q ≠ some (.obj o)) (z : SlotR K H0 G R H q x) : SlotR K H0 G R H' q x := by
  unfold SlotR at z ⊢
  split at z
  · trivial
  · exact z
  · exact absurd rfl (n _)
  · exact z
  · exact z
  · exact z
structure EnvR (K : PySem.W.Frag) (H0 : Hp) (ρ : Rho) (σ : L2.St) (G R H : Hp) : Prop where
  wd : Wd G R H
  len : ρ.length = σ.length
  slot : ∀ (i : Nat) (q : Option SV), ρ[i]? = some q → SlotR K H0 G R H q σ[i]?
  apart : ∀ (i j : Nat) (o o' : OwnO) (v v' : V) (a : Addr), ρ[i]? = some (some (.obj o)) → ρ[j]? = some (some (.obj o')) → σ[i]? = some (some v) → σ[j]? = some (some v') → a ∈ foot o v → a ∈ foot o' v' → i = j
theorem Stp.free1 {G R H G2 R2 H2 : Hp} (s : Stp G R H G2 R2 H2) {H0 : Hp} {a : Addr} (h : Free H0 G R H a) : Free H0 G2 R2 H2 a ∧ H2 a = H a := by
  obtain ⟨h1, h2, h3, u, h4⟩ := h
  have k := s.keep a u h2 h4
  refine ⟨⟨?_, ?_, h3, u, k⟩, by rw [k, h4]⟩
  · cases q : G2 a with
    | none => rfl
    | some u => have := s.gnew a u q h1; rw [h4] at this; cases this
  · cases q : R2 a with
    | none => rfl
    | some u => have := s.rnew a u q h2; rw [h4] at this; cases this
theorem SlotR.step {K : PySem.W.Frag} {H0 G R H G2 R2 H2 : Hp} (s : Stp G R H G2 R2 H2) {q : Option SV} {x : Option (Option V)} (h : SlotR K H0 G R H q x) : SlotR K H0 G2 R2 H2 q x := by
  unfold SlotR at h ⊢
  split at h
  · trivial
  · exact Dd.mono s.gg _ _ h
  · exact ⟨OwnAt.mono s.gg (fun a ha => (s.free1 (h.2 a ha)).2) h.1, fun a ha => (s.free1 (h.2 a ha)).1⟩
  · exact s.rel _ h
  · exact ScrL.mono s.gg h
  · exact h.elim
theorem EnvR.step {K : PySem.W.Frag} {H0 : Hp} {ρ : Rho} {σ : L2.St} {G R H G2 R2 H2 : Hp} (E : EnvR K H0 ρ σ G R H) (s : Stp G R H G2 R2 H2) : EnvR K H0 ρ σ G2 R2 H2 :=
  ⟨s.wd, E.len, fun i q e => (E.slot i q e).step s, E.apart⟩
theorem set_other {ρ : Rho} {i c : Nat} {x : Option SV} {o : OwnO} (n : ∀ o, x ≠ some (.obj o)) (hc : (ρ.set i x)[c]? = some (some (.obj o))) : i ≠ c ∧ ρ[c]? = some (some (.obj o)) := by
  by_cases q : i = c
  · subst q
    have hl := (List.getElem?_eq_some_iff.mp hc).1
    rw [List.length_set] at hl
    rw [List.getElem?_set_self hl] at hc
    cases hc
    exact absurd rfl (n _)
  · rw [List.getElem?_set_ne q] at hc
    exact ⟨q, hc⟩
/-- a name gets what is no object of the def's own -/
theorem EnvR.setS {K : PySem.W.Frag} {H0 : Hp} {ρ : Rho} {σ : L2.St} {G R H : Hp} (E : EnvR K H0 ρ σ G R H) (i : Nat) {q : Option SV} {x : Option V} (n : ∀ o, q ≠ some (.obj o)) (h : SlotR K H0 G R H q (some x)) : EnvR K H0 (ρ.set i q) (σ.set i x) G R H := by
  refine ⟨E.wd, by rw [List.length_set, List.length_set]; exact E.len, fun j q' e => ?_, fun a b o o' v v' c h1 h2 h3 h4 => ?_⟩
  · by_cases hj : i = j
    · subst hj
      have hl : i < ρ.length := by
        have := (List.getElem?_eq_some_iff.mp e).1
        rwa [List.length_set] at this
      rw [List.getElem?_set_self hl] at e
      rw [List.getElem?_set_self (E.len ▸ hl)]
      cases e
      exact h
    · rw [List.getElem?_set_ne hj] at e ⊢
      exact E.slot j q' e
  · obtain ⟨n1, e1⟩ := set_other n h1
    obtain ⟨n2, e2⟩ := set_other n h2
    rw [List.getElem?_set_ne n1] at h3
    rw [List.getElem?_set_ne n2] at h4
    exact E.apart a b o o' v v' c e1 e2 h3 h4
/-- a name gets data -/
theorem EnvR.setD {K : PySem.W.Frag} {H0 : Hp} {ρ : Rho} {σ : L2.St} {G R H : Hp} (E : EnvR K H0 ρ σ G R H) (i : Nat) {d : PyData} {v : V} (h : Dd G v d) : EnvR K H0 (ρ.set i (some (.dat d))) (σ.set i (some v)) G R H :=
  E.setS i (fun _ z => by cases z) h
/-- a name is forgotten -/
theorem EnvR.drop {K : PySem.W.Frag} {H0 : Hp} {ρ : Rho} {σ : L2.St} {G R H : Hp} (E : EnvR K H0 ρ σ G R H) (i : Nat) (x : Option V) : EnvR K H0 (ρ.set i none) (σ.set i x) G R H :=
  E.setS i (fun _ z => by cases z) trivial
/-- what is known of a name is forgotten -/
theorem EnvR.lose {K : PySem.W.Frag} {H0 : Hp} {ρ : Rho} {σ : L2.St} {G R H : Hp} (E : EnvR K H0 ρ σ G R H) (i : Nat) : EnvR K H0 (ρ.set i none) σ G R H := by
  refine ⟨E.wd, by rw [List.length_set]; exact E.len, fun j q' e => ?_, fun a b o o' v v' c h1 h2 h3 h4 => ?_⟩
  · by_cases hj : i = j
    · subst hj
      have hl : i < ρ.length := by
        have := (List.getElem?_eq_some_iff.mp e).1
        rwa [List.length_set] at this
      rw [List.getElem?_set_self hl] at e
      cases e
      trivial
    · rw [List.getElem?_set_ne hj] at e
      exact E.slot j q' e
  · obtain ⟨n1, e1⟩ := set_other (fun _ z => by cases z) h1
    obtain ⟨n2, e2⟩ := set_other (fun _ z => by cases z) h2
    exact E.apart a b o o' v v' c e1 e2 h3 h4
/-- a place beside the names -/
def Beside (ρ : Rho) (σ : L2.St) (D : Addr) : Prop := ∀ (i : Nat) (o : OwnO) (v : V), ρ[i]? = some (some (.obj o)) → σ[i]? = some (some v) → D ∉ foot o v
theorem EnvR.beside {K : PySem.W.Frag} {H0 : Hp} {ρ : Rho} {σ : L2.St} {G R H : Hp} (E : EnvR K H0 ρ σ G R H) {p : Addr} (hp : H p = none) : Beside ρ σ p := fun i o v h1 h2 q => by
  have z := E.slot i _ h1
  rw [h2] at z
  obtain ⟨_, _, _, u, h3⟩ := z.2 p q
  rw [hp] at h3
  cases h3
theorem EnvR.off {K : PySem.W.Frag} {H0 : Hp} {ρ : Rho} {σ : L2.St} {G R H : Hp} (E : EnvR K H0 ρ σ G R H) {D : Addr} {o : HO} (hg : G D = none) (hr : R D = none) (hb : Beside ρ σ D) : EnvR K H0 ρ σ G R (upd H D o) := by
  have ng : ∀ b u, G b = some u → b ≠ D := fun b u e => ne_of_none e hg
  have nr : ∀ b u, R b = some u → b ≠ D := fun b u e => ne_of_none e hr
  refine ⟨⟨fun b u e => by rw [upd_ne (ng b u e)]; exact E.wd.gh b u e, fun b u e => by rw [upd_ne (nr b u e)]; exact E.wd.rh b u e, E.wd.dis⟩, E.len, fun j q e => ?_, E.apart⟩
  have z := E.slot j q e
  cases q with
  | none => trivial
  | some sv =>
    cases sv with
    | obj p =>
      cases hsj : σ[j]? with
      | none => rw [hsj] at z; exact z
      | some y =>
        cases y with
        | none => rw [hsj] at z; exact z
        | some v =>
          rw [hsj] at z
          have ne : ∀ a ∈ foot p v, upd H D o a = H a := fun a ha => upd_ne (fun q => hb j p v e hsj (q ▸ ha))
          exact ⟨OwnAt.mono (Same.refl G) ne z.1, fun a ha => let ⟨k1, k2, k3, u, k4⟩ := z.2 a ha; ⟨k1, k2, k3, u, by rw [ne a ha]; exact k4⟩⟩
    | dat d => exact slot_heap (fun _ q => by cases q) z
    | rel => exact slot_heap (fun _ q => by cases q) z
    | scr ns => exact slot_heap (fun _ q => by cases q) z
theorem set_split {ρ : Rho} {σ : L2.St} (len : ρ.length = σ.length) {i c : Nat} {o p : OwnO} {v w : V} (h1 : (ρ.set i (some (.obj o)))[c]? = some (some (.obj p))) (h3 : (σ.set i (some v))[c]? = some (some w)) :
    (i = c ∧ p = o ∧ w = v) ∨ (i ≠ c ∧ ρ[c]? = some (some (.obj p)) ∧ σ[c]? = some (some w)) := by
  by_cases q : i = c
  · subst q
    have hl := (List.getElem?_eq_some_iff.mp h1).1
    rw [List.length_set] at hl
    rw [List.getElem?_set_self hl] at h1
    rw [List.getElem?_set_self (len ▸ hl)] at h3
    cases h1
    cases h3
    exact .inl ⟨rfl, rfl, rfl⟩
  · rw [List.getElem?_set_ne q] at h1 h3
    exact .inr ⟨q, h1, h3⟩
/-- a name gets an object that is no part of anything -/
theorem EnvR.put {K : PySem.W.Frag} {H0 : Hp} {ρ : Rho} {σ : L2.St} {G R H : Hp} (E : EnvR K H0 ρ σ G R H) (i : Nat) {o : OwnO} {v : V} (h : OwnAt G H o v) (hf : ∀ a ∈ foot o v, Free H0 G R H a ∧ Beside ρ σ a) :
    EnvR K H0 (ρ.set i (some (.obj o))) (σ.set i (some v)) G R H := by
  refine ⟨E.wd, by rw [List.length_set, List.length_set]; exact E.len, fun j q e => ?_, fun a b p p' w w' c h1 h2 h3 h4 c1 c2 => ?_⟩
  · by_cases hj : i = j
    · subst hj
      have hl : i < ρ.length := by
        have := (List.getElem?_eq_some_iff.mp e).1
        rwa [List.length_set] at this
      rw [List.getElem?_set_self hl] at e
      rw [List.getElem?_set_self (E.len ▸ hl)]
      cases e
      exact ⟨h, fun a ha => (hf a ha).1⟩
    · rw [List.getElem?_set_ne hj] at e ⊢
      exact E.slot j q e
  · rcases set_split E.len h1 h3 with ⟨q1, rfl, rfl⟩ | ⟨q1, e1, e3⟩ <;> rcases set_split E.len h2 h4 with ⟨q2, rfl, rfl⟩ | ⟨q2, e2, e4⟩
    · exact q1.symm.trans q2
    · exact absurd c2 ((hf c c1).2 b p' w' e2 e4)
    · exact absurd c1 ((hf c c2).2 a p w e1 e3)
    · exact E.apart a b p p' w w' c e1 e2 e3 e4 c1 c2
theorem none_of_dom {H0 H : Hp} (s0 : ∀ b o, H0 b = some o → ∃ u, H b = some u) {p : Addr} (hp : H p = none) : H0 p = none := by
  cases q : H0 p with
  | none => rfl
  | some u => obtain ⟨u2, z⟩ := s0 _ _ q; rw [hp] at z; cases z
theorem Wd.none {G R H : Hp} (w : Wd G R H) {p : Addr} (hp : H p = none) : G p = none ∧ R p = none := by
  constructor
  · cases q : G p with
    | none => rfl
    | some u => have := w.gh _ _ q; rw [hp] at this; cases this
  · cases q : R p with
    | none => rfl
    | some u => have := w.rh _ _ q; rw [hp] at this; cases this
/-- a name gets a new list of the def's own -/
theorem EnvR.setO {K : PySem.W.Frag} {H0 : Hp} {ρ : Rho} {σ : L2.St} {G R H : Hp} (E : EnvR K H0 ρ σ G R H) (s0 : ∀ b o, H0 b = some o → ∃ u, H b = some u) (i : Nat) {xs : List PyData} {vs : List V} {p : Addr} (hp : H p = none) (h : DdAll G vs xs) :
    EnvR K H0 (ρ.set i (some (.own xs))) (σ.set i (some (.ref p))) G R (upd H p (.lst vs)) := by
  obtain ⟨gp, rp⟩ := E.wd.none hp
  have bes := E.beside hp
  refine (E.off gp rp bes).put i (o := .lst xs) (v := .ref p) ⟨vs, upd_same, h⟩ fun a ha => ?_
  rw [List.mem_singleton.mp (show a ∈ [p] from ha)]
  exact ⟨⟨gp, rp, none_of_dom s0 hp, _, upd_same⟩, bes⟩
/-- an object of the def's own is changed -/
theorem EnvR.chgO {K : PySem.W.Frag} {H0 : Hp} {ρ : Rho} {σ : L2.St} {G R H H' : Hp} (E : EnvR K H0 ρ σ G R H) {i : Nat} {o o' : OwnO} {v : V} (hi : ρ[i]? = some (some (.obj o))) (hs : σ[i]? = some (some v)) (h : OwnAt G H' o' v) (hf : foot o' v = foot o v)
    (off : ∀ b, b ∉ foot o v → H' b = H b) (on : ∀ b ∈ foot o v, ∃ u, H' b = some u) : EnvR K H0 (ρ.set i (some (.obj o'))) σ G R H' := by
  have fr : ∀ a ∈ foot o v, Free H0 G R H a := by
    have z := E.slot i _ hi
    rw [hs] at z
    exact z.2
  have w2 : Wd G R H' := ⟨fun b u e => by rw [off b (fun q => by rw [(fr b q).1] at e; cases e)]; exact E.wd.gh b u e, fun b u e => by rw [off b (fun q => by rw [(fr b q).2.1] at e; cases e)]; exact E.wd.rh b u e, E.wd.dis⟩
  have hl : i < ρ.length := (List.getElem?_eq_some_iff.mp hi).1
  have back : ∀ (c : Nat) (p : OwnO), (ρ.set i (some (.obj o')))[c]? = some (some (.obj p)) → ∃ p', ρ[c]? = some (some (.obj p')) ∧ ∀ w, σ[c]? = some (some w) → foot p w = foot p' w := fun c p hc => by
    by_cases q : i = c
    · subst q
      rw [List.getElem?_set_self hl] at hc
      cases hc
      refine ⟨o, hi, fun w hw => ?_⟩
      rw [hs] at hw
      cases hw
      exact hf
    · rw [List.getElem?_set_ne q] at hc
      exact ⟨p, hc, fun _ _ => rfl⟩
  refine ⟨w2, by rw [List.length_set]; exact E.len, fun j q e => ?_, fun a b p p' w w' c h1 h2 h3 h4 c1 c2 => ?_⟩
  · by_cases hj : i = j
    · subst hj
      rw [List.getElem?_set_self hl] at e
      cases e
      rw [hs]
      exact ⟨h, fun a ha => by rw [hf] at ha; exact ⟨(fr a ha).1, (fr a ha).2.1, (fr a ha).2.2.1, on a ha⟩⟩
    · rw [List.getElem?_set_ne hj] at e
      have z := E.slot j q e
      cases q with
      | none => trivial
      | some sv =>
        cases sv with
        | obj p =>
          cases hsj : σ[j]? with
          | none => rw [hsj] at z; exact z
          | some y =>
            cases y with
            | none => rw [hsj] at z; exact z
            | some w =>
              rw [hsj] at z
              have ne : ∀ a ∈ foot p w, H' a = H a := fun a ha => off a fun q => hj (E.apart i j o p v w a hi e hs hsj q ha)
              exact ⟨OwnAt.mono (Same.refl G) ne z.1, fun a ha => let ⟨k1, k2, k3, u, k4⟩ := z.2 a ha; ⟨k1, k2, k3, u, by rw [ne a ha]; exact k4⟩⟩
        | dat d => exact slot_heap (fun _ q => by cases q) z
        | rel => exact slot_heap (fun _ q => by cases q) z
        | scr ns => exact slot_heap (fun _ q => by cases q) z
  · obtain ⟨p1, e1, f1⟩ := back a p h1
    obtain ⟨p2, e2, f2⟩ := back b p' h2
    rw [f1 w h3] at c1
    rw [f2 w' h4] at c2
    exact E.apart a b p1 p2 w w' c e1 e2 h3 h4 c1 c2
/-- a list of the def's own is changed -/
theorem EnvR.chg {K : PySem.W.Frag} {H0 : Hp} {ρ : Rho} {σ : L2.St} {G R H : Hp} (E : EnvR K H0 ρ σ G R H) {i : Nat} {xs ys : List PyData} {ws : List V} {l : Addr} (hi : ρ[i]? = some (some (.own xs))) (hs : σ[i]? = some (some (.ref l))) (h : DdAll G ws ys) :
    EnvR K H0 (ρ.set i (some (.own ys))) σ G R (upd H l (.lst ws)) :=
  E.chgO (o' := .lst ys) hi hs ⟨ws, upd_same, h⟩ rfl (fun b hb => upd_ne fun q => hb (by rw [q]; simp [foot])) fun b hb => by
    rw [List.mem_singleton.mp (show b ∈ [l] from hb)]
    exact ⟨_, upd_same⟩
/-- objects of the def's own that can be data -/
def itD : PyData ⊕ List PyData → PyData
  | .inl d => d
  | .inr xs => .list xs
def ownD : OwnO → Option PyData
  | .lst xs => some (.list xs)
  | .nst _ its => some (.list (its.map itD))
  | .dct _ => none
theorem NstAll.dd {G G2 H : Hp} (sm : Same G G2) : ∀ (its : List (PyData ⊕ List PyData)) (vs : List V) (fps : List Addr), (∀ a ∈ fps, G2 a = H a) → NstAll G H vs its fps → DdAll G2 vs (its.map itD)
  | [], [], [], _, _ => .nil
  | .inl d :: its, v :: vs, fps, hh, h => by
    cases fps <;> exact .cons (Dd.mono sm _ _ h.1) (NstAll.dd sm its vs _ hh h.2)
  | .inr xs :: its, v :: vs, p :: fps, hh, h => by
    obtain ⟨rfl, ⟨ws, h2, h3⟩, h4⟩ := h
    exact .cons (.lst (by rw [hh p (by simp)]; exact h2) (DdAll.mono sm _ _ h3)) (NstAll.dd sm its vs fps (fun a ha => hh a (List.mem_cons_of_mem _ ha)) h4)
  | [], [], _ :: _, _, h => h.elim
  | [], _ :: _, [], _, h => h.elim
  | [], _ :: _, _ :: _, _, h => h.elim
  | .inl _ :: _, [], [], _, h => h.elim
  | .inl _ :: _, [], _ :: _, _, h => h.elim
  | .inr _ :: _, [], [], _, h => h.elim
  | .inr _ :: _, [], _ :: _, _, h => h.elim
  | .inr _ :: _, _ :: _, [], _, h => h.elim
theorem OwnAt.dd {G G2 H : Hp} (sm : Same G G2) {o : OwnO} {v : V} {d : PyData} (e : ownD o = some d) (hh : ∀ a ∈ foot o v, G2 a = H a) (h : OwnAt G H o v) : Dd G2 v d := by
  cases v with
  | ref l =>
    cases o with
    | lst xs =>
      cases e
      obtain ⟨vs, h1, h2⟩ := h
      exact .lst (by rw [hh l (by simp [foot])]; exact h1) (DdAll.mono sm _ _ h2)
    | dct kvs => cases e
    | nst as its =>
      cases e
      obtain ⟨vs, fps, e, nd, h1, h2⟩ := h
      have hh' : ∀ a ∈ as, G2 a = H a := hh
      exact .lst (by rw [hh' l (by rw [e]; simp)]; exact h1) (NstAll.dd sm _ _ _ (fun a ha => hh' a (by rw [e]; exact List.mem_cons_of_mem _ ha)) h2)
  | _ => cases o <;> exact h.elim
def inDec (fp : List Addr) (b : Addr) : Bool := fp.any fun a => a == b
theorem inDec_iff {fp : List Addr} {b : Addr} : inDec fp b = true ↔ b ∈ fp := by
  unfold inDec
  rw [List.any_eq_true]
  exact ⟨fun ⟨a, h, e⟩ => by rw [← eq_of_beq e]; exact h, fun h => ⟨b, h, beq_self_eq_true b⟩⟩
/-- G with some places of H -/
def joinH (G H : Hp) (fp : List Addr) : Hp := fun b => if inDec fp b = true then H b else G b
theorem joinH_in {G H : Hp} {fp : List Addr} {b : Addr} (h : b ∈ fp) : joinH G H fp b = H b := if_pos (inDec_iff.mpr h)
theorem joinH_out {G H : Hp} {fp : List Addr} {b : Addr} (h : b ∉ fp) : joinH G H fp b = G b := if_neg fun z => h (inDec_iff.mp z)
/-- an object of the def's own stands still from now on -/
theorem EnvR.freezeO {K : PySem.W.Frag} {H0 : Hp} {ρ : Rho} {σ : L2.St} {G R H : Hp} (E : EnvR K H0 ρ σ G R H) {i : Nat} {o : OwnO} {v : V} {d : PyData} (hd : ownD o = some d) (hi : ρ[i]? = some (some (.obj o))) (hs : σ[i]? = some (some v)) :
    EnvR K H0 (ρ.set i (some (.dat d))) σ (joinH G H (foot o v)) R H ∧ Dd (joinH G H (foot o v)) v d ∧ Same G (joinH G H (foot o v)) := by
  obtain ⟨ho, fr⟩ : OwnAt G H o v ∧ ∀ a ∈ foot o v, Free H0 G R H a := by
    have z := E.slot i _ hi
    rw [hs] at z
    exact z
  have sm : Same G (joinH G H (foot o v)) := fun b u e => by rw [joinH_out (fun q => by rw [(fr b q).1] at e; cases e)]; exact e
  have dd : Dd (joinH G H (foot o v)) v d := OwnAt.dd sm hd (fun a ha => joinH_in ha) ho
  have hl : i < ρ.length := (List.getElem?_eq_some_iff.mp hi).1
  refine ⟨⟨⟨fun b u e => ?_, E.wd.rh, fun b u e => ?_⟩, by rw [List.length_set]; exact E.len, fun j q e => ?_, fun a b p p' w w' c h1 h2 h3 h4 => ?_⟩, dd, sm⟩
  · by_cases q : b ∈ foot o v
    · rw [joinH_in q] at e; exact e
    · rw [joinH_out q] at e; exact E.wd.gh b u e
  · rw [joinH_out (fun q => by rw [(fr b q).2.1] at e; cases e)]; exact E.wd.dis b u e
  · by_cases hj : i = j
    · subst hj
      rw [List.getElem?_set_self hl] at e
      cases e
      rw [hs]
      exact dd
    · rw [List.getElem?_set_ne hj] at e
      have z := E.slot j q e
      cases q with
      | none => trivial
      | some sv =>
        cases hsj : σ[j]? with
        | none => rw [hsj] at z; cases sv <;> exact z
        | some y =>
          cases y with
          | none => rw [hsj] at z; cases sv <;> exact z
          | some w =>
            rw [hsj] at z
            cases sv with
            | dat d => exact Dd.mono sm _ _ z
            | obj p =>
              refine ⟨OwnAt.mono sm (fun _ _ => rfl) z.1, fun a ha => ?_⟩
              obtain ⟨k1, k2, k3, k4⟩ := z.2 a ha
              exact ⟨by rw [joinH_out (fun q => hj (E.apart i j o p v w a hi e hs hsj q ha))]; exact k1, k2, k3, k4⟩
            | rel => cases w <;> exact z
            | scr ns =>
              cases w with
              | ref a => exact ScrL.mono sm z
              | _ => exact z
  · obtain ⟨n1, e1⟩ := set_other (fun _ z => by cases z) h1
    obtain ⟨n2, e2⟩ := set_other (fun _ z => by cases z) h2
    exact E.apart a b p p' w w' c e1 e2 h3 h4
/-- a list of the def's own stands still from now on -/
theorem EnvR.freezeX {K : PySem.W.Frag} {H0 : Hp} {ρ : Rho} {σ : L2.St} {G R H : Hp} (E : EnvR K H0 ρ σ G R H) {i : Nat} {xs : List PyData} {l : Addr} (hi : ρ[i]? = some (some (.own xs))) (hs : σ[i]? = some (some (.ref l))) :
    ∃ G2, EnvR K H0 (ρ.set i (some (.dat (.list xs)))) σ G2 R H ∧ Dd G2 (.ref l) (.list xs) ∧ Same G G2 ∧ (∀ b o, G2 b = some o → G b = none → H0 b = none) ∧ ∀ b, b ≠ l → G2 b = G b := by
  obtain ⟨E2, dd, sm⟩ := E.freezeO (o := .lst xs) rfl hi hs
  refine ⟨_, E2, dd, sm, fun b u e n => ?_, fun b hb => joinH_out fun q => hb (List.mem_singleton.mp q)⟩
  by_cases q : b ∈ foot (.lst xs) (.ref l)
  · have z := E.slot i _ hi
    rw [hs] at z
    exact (z.2 b q).2.2.1
  · rw [joinH_out q, n] at e; cases e
theorem EnvR.freeze {K : PySem.W.Frag} {H0 : Hp} {ρ : Rho} {σ : L2.St} {G R H : Hp} (E : EnvR K H0 ρ σ G R H) {i : Nat} {xs : List PyData} {l : Addr} (hi : ρ[i]? = some (some (.own xs))) (hs : σ[i]? = some (some (.ref l))) :
    ∃ G2, EnvR K H0 (ρ.set i (some (.dat (.list xs)))) σ G2 R H ∧ Dd G2 (.ref l) (.list xs) ∧ Same G G2 ∧ (∀ b o, G2 b = some o → G b = none → H0 b = none) := by
  obtain ⟨G2, a, b, c, d, _⟩ := E.freezeX hi hs
  exact ⟨G2, a, b, c, d⟩
end Tee

/-! part C: expressions, said of values alone -/
namespace Tee
open PySem PySem.Spec PyProof.Rows L2

structure Sta where
  P : Program
  w : World
  K : PySem.W.Frag
  mg : Str → Option Value
  base : Heap
  N : List Str
  sc : Scope
  fn : Str → Bool
  k : Nat
structure Fits (S : Sta) (X : Cx) : Prop where
  prog : X.prog = S.P
  w : X.w = S.w
  K : X.K = S.K
  mg : X.mg = S.mg
  base : X.base = S.base
  N : X.N = S.N
  sc : X.env.scope = S.sc
  fn : ∀ x, S.fn x = true → X.fn x = true
  calm : X.calm = true
  gd : X.A.guards = some []
  room : Room S.k X.A
  sys : SysAt X.base
  nd : X.N.Nodup
  xe : X.xe = fun _ _ => False

/-! ### readings that ask for what they are -/
def tU (X : Cx) (e : Expr) : TE := fun σ H Q => ∀ pins s, Inv X pins σ H s → wpAny (model X.prog X.w) X.A (eval e X.env) (EP X pins σ Q) X.xe s
theorem pe_U {X : Cx} {e : Expr} : PE X e (tU X e) := ⟨fun pins s σ H Q I h => h pins s I⟩
def tUT (X : Cx) (e : Expr) : TT := fun σ H Q => ∀ pins s, Inv X pins σ H s → wpAny (model X.prog X.w) X.A (isTrue e X.env (eval e X.env)) (TP X pins σ Q) X.xe s
theorem pt_U {X : Cx} {e : Expr} : PT X e (tUT X e) := ⟨fun pins s σ H Q I h => h pins s I⟩
def tUW (X : Cx) (e : Expr) : TT := fun σ H Q => ∀ whole pins s, Inv X pins σ H s → wpAny (model X.prog X.w) X.A (isTrue e X.env whole) (TP X pins σ Q) X.xe s
theorem pw_U {X : Cx} {e : Expr} : PW X e (tUW X e) := ⟨fun whole pins s σ H Q I h => h whole pins s I⟩
def tUS (X : Cx) (st : List Stmt) : TS := fun D σ H => ∀ pins s, Inv X pins σ H s → wpAny (model X.prog X.w) X.A (execs st X.env) (SP X pins D) X.xe s
theorem pss_U {X : Cx} {st : List Stmt} : PSs X st (tUS X st) := ⟨fun pins s σ H D I h => h pins s I⟩

/-! ### operands: data, or a list of the def's own, whose items are data -/
inductive Od (G R H : Hp) : V → PyData → Prop
  | dd {v : V} {d : PyData} (h : Dd G v d) : Od G R H v d
  | own {l : Addr} {vs : List V} {xs : List PyData} (h : H l = some (.lst vs)) (r : R l = none) (q : DdAll G vs xs) : Od G R H (.ref l) (.list xs)
theorem Od.step {G R H G2 R2 H2 : Hp} (s : Stp G R H G2 R2 H2) {v : V} {d : PyData} (h : Od G R H v d) : Od G2 R2 H2 v d := by
  cases h with
  | dd h => exact .dd (Dd.mono s.gg _ _ h)
  | own h r q =>
    refine .own (s.keep _ _ r h) ?_ (DdAll.mono s.gg _ _ q)
    cases q1 : R2 _ with
    | none => rfl
    | some u => have := s.rnew _ u q1 r; rw [h] at this; cases this
theorem Od.int {G R H : Hp} {v : V} {i : Int} (h : Od G R H v (.int i)) : v = .int i := by cases h with | dd h => cases h; rfl
theorem Od.bl {G R H : Hp} {v : V} {b : Bool} (h : Od G R H v (.bool b)) : v = .bl b := by cases h with | dd h => cases h; rfl
theorem Od.non {G R H : Hp} {v : V} (h : Od G R H v .none) : v = .non := by cases h with | dd h => cases h; rfl
theorem Od.str {G R H : Hp} {v : V} {x : Str} (h : Od G R H v (.str x)) : v = .str x := by cases h with | dd h => cases h; rfl
theorem Od.list {G R H : Hp} (w : Wd G R H) {v : V} {xs : List PyData} (h : Od G R H v (.list xs)) : ∃ l vs, v = .ref l ∧ H l = some (.lst vs) ∧ DdAll G vs xs ∧ R l = none := by
  cases h with
  | dd h =>
    cases h with
    | lst h r =>
      refine ⟨_, _, rfl, w.gh _ _ h, r, ?_⟩
      cases q : R _ with
      | none => rfl
      | some u => have := w.dis _ u q; rw [h] at this; cases this
  | own h r q => exact ⟨_, _, rfl, h, q, r⟩
theorem Od.tup {G R H : Hp} (w : Wd G R H) {v : V} {xs : List PyData} (h : Od G R H v (.tuple xs)) : ∃ l vs, v = .ref l ∧ H l = some (.tup vs) ∧ DdAll G vs xs ∧ Dd G v (.tuple xs) := by
  cases h with
  | dd h =>
    have h0 := h
    cases h with
    | tup h r => exact ⟨_, _, rfl, w.gh _ _ h, r, h0⟩
theorem DdAll.len {G : Hp} : ∀ {vs : List V} {ds : List PyData}, DdAll G vs ds → vs.length = ds.length
  | _, _, .nil => rfl
  | _, _, .cons _ t => congrArg (· + 1) (DdAll.len t)
theorem DdAll.get {G : Hp} : ∀ {vs : List V} {ds : List PyData} {i : Nat} {d : PyData}, DdAll G vs ds → ds[i]? = some d → ∃ v, vs[i]? = some v ∧ Dd G v d
  | _, _, _, _, .nil, e => by simp at e
  | _, _, 0, _, .cons h _, e => by cases e; exact ⟨_, rfl, h⟩
  | _, _, i + 1, _, .cons _ t, e => DdAll.get (i := i) t e
theorem DdAll.getV {G : Hp} : ∀ {vs : List V} {ds : List PyData} {i : Nat} {v : V}, DdAll G vs ds → vs[i]? = some v → ∃ d, ds[i]? = some d ∧ Dd G v d
  | _, _, _, _, .nil, e => by simp at e
  | _, _, 0, _, .cons h _, e => by cases e; exact ⟨_, rfl, h⟩
  | _, _, i + 1, _, .cons _ t, e => DdAll.getV (i := i) t e
theorem DdAll.app {G : Hp} : ∀ {vs ws : List V} {ds es : List PyData}, DdAll G vs ds → DdAll G ws es → DdAll G (vs ++ ws) (ds ++ es)
  | _, _, _, _, .nil, q => q
  | _, _, _, _, .cons h t, q => .cons h (DdAll.app t q)
theorem DdAll.takeD {G : Hp} : ∀ (n : Nat) {vs : List V} {ds : List PyData}, DdAll G vs ds → DdAll G (vs.take n) (ds.take n)
  | 0, _, _, _ => .nil
  | _ + 1, _, _, .nil => .nil
  | n + 1, _, _, .cons h t => .cons h (DdAll.takeD n t)
theorem DdAll.dropD {G : Hp} : ∀ (n : Nat) {vs : List V} {ds : List PyData}, DdAll G vs ds → DdAll G (vs.drop n) (ds.drop n)
  | 0, _, _, q => q
  | _ + 1, _, _, .nil => .nil
  | n + 1, _, _, .cons _ t => DdAll.dropD n t
theorem DdAll.setD {G : Hp} {v : V} {d : PyData} (h : Dd G v d) : ∀ (i : Nat) {vs : List V} {ds : List PyData}, DdAll G vs ds → DdAll G (vs.set i v) (ds.set i d)
  | _, _, _, .nil => .nil
  | 0, _, _, .cons _ t => .cons h t
  | i + 1, _, _, .cons q t => .cons q (DdAll.setD h i t)
theorem DdAll.rep {G : Hp} {vs : List V} {ds : List PyData} (h : DdAll G vs ds) : ∀ (n : Nat), DdAll G (List.replicate n vs).flatten (List.replicate n ds).flatten
  | 0 => .nil
  | n + 1 => by
    show DdAll G (vs ++ (List.replicate n vs).flatten) (ds ++ (List.replicate n ds).flatten)
    exact h.app (DdAll.rep h n)
theorem DdAll.ints {G : Hp} : ∀ (ns : List Int), DdAll G (ns.map V.int) (ns.map PyData.int)
  | [] => .nil
  | n :: ns => .cons (.int n) (DdAll.ints ns)
theorem DdAll.intsV {G : Hp} : ∀ (ns : List Int) {vs : List V}, DdAll G vs (ns.map PyData.int) → vs = ns.map V.int
  | [], _, h => by cases h; rfl
  | n :: ns, _, h => by
    cases h with
    | cons h t =>
      cases h
      rw [DdAll.intsV ns t]
      rfl
def cutD (xs : List PyData) (lo hi : Option Int) : List PyData := (xs.drop (HT.sIx xs.length 0 lo)).take (HT.sIx xs.length xs.length hi - HT.sIx xs.length 0 lo)
theorem DdAll.cut {G : Hp} {vs : List V} {ds : List PyData} (h : DdAll G vs ds) (lo hi : Option Int) : DdAll G (cutV vs lo hi) (cutD ds lo hi) := by
  unfold cutV cutD
  rw [h.len]
  exact (h.dropD _).takeD _
theorem DdAll.ix {G : Hp} {vs : List V} {ds : List PyData} (h : DdAll G vs ds) {i : Int} {d : PyData} (e : atI ds i = some d) : ∃ v, atI vs i = some v ∧ Dd G v d := by
  unfold atI at e ⊢
  rw [h.len]
  cases q : ixN ds.length i with
  | none => rw [q] at e; cases e
  | some j => rw [q] at e; exact h.get e

/-! ### judgements -/
/-- what follows a value, a test, a list of values -/
abbrev KD (G R H : Hp) (Q : PyData → Prop) (QV : VK) : Prop := ∀ d v G2 R2 H2, Q d → Stp G R H G2 R2 H2 → Dd G2 v d → QV v H2
abbrev KO (G R H : Hp) (Q : PyData → Prop) (QV : VK) : Prop := ∀ d v G2 R2 H2, Q d → Stp G R H G2 R2 H2 → Od G2 R2 H2 v d → QV v H2
abbrev KB (G R H : Hp) (Q : Bool → Prop) (QV : Bool → Hp → Prop) : Prop := ∀ b G2 R2 H2, Q b → Stp G R H G2 R2 H2 → QV b H2
def ArgR (K : PySem.W.Frag) (G R : Hp) : V → SV → Prop
  | v, .dat d => Dd G v d
  | .ref r, .rel => ReelAt R r
  | .ref a, .scr ns => ScrL K G a (ns.map V.int)
  | _, _ => False
theorem ArgR.step {K : PySem.W.Frag} {G R H G2 R2 H2 : Hp} (s : Stp G R H G2 R2 H2) {v : V} {a : SV} (h : ArgR K G R v a) : ArgR K G2 R2 v a := by
  cases a with
  | dat d => exact Dd.mono s.gg _ _ h
  | obj o => cases v <;> exact h.elim
  | rel =>
    cases v with
    | ref r => exact s.rel _ h
    | _ => exact h
  | scr ns =>
    cases v with
    | ref r => exact ScrL.mono s.gg h
    | _ => exact h
abbrev ArgsR (K : PySem.W.Frag) (G R : Hp) : List V → List SV → Prop := Paired (ArgR K G R)
theorem ArgsR.step {K : PySem.W.Frag} {G R H G2 R2 H2 : Hp} (s : Stp G R H G2 R2 H2) {vs : List V} {as : List SV} (h : ArgsR K G R vs as) : ArgsR K G2 R2 vs as := Paired.mapP h fun _ _ q => q.step s
abbrev KA (K : PySem.W.Frag) (G R H : Hp) (Q : List SV → Prop) (QV : List V → Hp → Prop) : Prop := ∀ as vs G2 R2 H2, Q as → Stp G R H G2 R2 H2 → ArgsR K G2 R2 vs as → QV vs H2

def WE (S : Sta) (e : Expr) (ρ : Rho) (Q : PyData → Prop) : Prop :=
  ∀ X, Fits S X → ∀ H0 σ G R H, EnvR S.K H0 ρ σ G R H → ∀ QV : VK, KD G R H Q QV → tU X e σ H QV
def WO (S : Sta) (e : Expr) (ρ : Rho) (Q : PyData → Prop) : Prop :=
  ∀ X, Fits S X → ∀ H0 σ G R H, EnvR S.K H0 ρ σ G R H → ∀ QV : VK, KO G R H Q QV → tU X e σ H QV
def WT (S : Sta) (e : Expr) (ρ : Rho) (Q : Bool → Prop) : Prop :=
  ∀ X, Fits S X → ∀ H0 σ G R H, EnvR S.K H0 ρ σ G R H → ∀ QV : Bool → Hp → Prop, KB G R H Q QV → tUT X e σ H QV
/-- a chain of and, or -/
def WW (S : Sta) (e : Expr) (ρ : Rho) (Q : Bool → Prop) : Prop :=
  ∀ X, Fits S X → ∀ H0 σ G R H, EnvR S.K H0 ρ σ G R H → ∀ QV : Bool → Hp → Prop, KB G R H Q QV → tUW X e σ H QV
def WG (S : Sta) (es : List Expr) (ρ : Rho) (Q : List SV → Prop) : Prop :=
  ∀ X, Fits S X → ∀ H0 σ G R H, EnvR S.K H0 ρ σ G R H → ∃ t, PA X es t ∧ ∀ QV : List V → Hp → Prop, KA S.K G R H Q QV → t σ H QV

section
variable {S : Sta} {ρ : Rho} {Q : PyData → Prop} {a b c e : Expr} {es : List Expr} {x : Str} {p pos : Pos}
theorem WE.mono {Q' : PyData → Prop} (h : WE S e ρ Q) (k : ∀ d, Q d → Q' d) : WE S e ρ Q' := fun X f H0 σ G R H E QV kq => h X f H0 σ G R H E QV fun d v G2 R2 H2 q => kq d v G2 R2 H2 (k d q)
theorem WO.mono {Q' : PyData → Prop} (h : WO S e ρ Q) (k : ∀ d, Q d → Q' d) : WO S e ρ Q' := fun X f H0 σ G R H E QV kq => h X f H0 σ G R H E QV fun d v G2 R2 H2 q => kq d v G2 R2 H2 (k d q)
theorem WT.mono {Q Q' : Bool → Prop} (h : WT S e ρ Q) (k : ∀ d, Q d → Q' d) : WT S e ρ Q' := fun X f H0 σ G R H E QV kq => h X f H0 σ G R H E QV fun d G2 R2 H2 q => kq d G2 R2 H2 (k d q)
theorem WE.by {X : Cx} {t : TE} (pe : PE X e t) {σ : L2.St} {H : Hp} {QV : VK} (h : t σ H QV) : tU X e σ H QV := fun pins s I => pe.run pins s σ H QV I h
theorem WT.by {X : Cx} {t : TT} (pe : PT X e t) {σ : L2.St} {H : Hp} {QV : Bool → Hp → Prop} (h : t σ H QV) : tUT X e σ H QV := fun pins s I => pe.run pins s σ H QV I h
theorem WW.by {X : Cx} {t : TT} (pe : PW X e t) {σ : L2.St} {H : Hp} {QV : Bool → Hp → Prop} (h : t σ H QV) : tUW X e σ H QV := fun wh pins s I => pe.run wh pins s σ H QV I h
theorem WO.of (h : WE S e ρ Q) : WO S e ρ Q := fun X f H0 σ G R H E QV kq => h X f H0 σ G R H E QV fun d v G2 R2 H2 q s dd => kq d v G2 R2 H2 q s (.dd dd)

/-! ### names and constants -/
theorem we_name (i : Nat) {d : PyData} (hN : S.N[i]? = some x) (hv : Vis S.sc x) (hr : ρ[i]? = some (some (.dat d))) (q : Q d) (hd : (x == ("__debug__" : Str)) = false := by decide) (hcd : (x == ("__classdict__" : Str)) = false := by decide) :
    WE S (.Name x p) ρ Q := by
  intro X f H0 σ G R H E QV kq
  have z := E.slot i _ hr
  cases hs : σ[i]? with
  | none => rw [hs] at z; exact z.elim
  | some o =>
    cases o with
    | none => rw [hs] at z; exact z.elim
    | some v =>
      rw [hs] at z
      exact WE.by (pe_var (i := i) (by rw [f.N]; exact hN) (by rw [f.sc]; exact hv) hd hcd) ⟨v, hs, kq d v G R H q (Stp.refl E.wd) z⟩
theorem wo_own (i : Nat) {xs : List PyData} (hN : S.N[i]? = some x) (hv : Vis S.sc x) (hr : ρ[i]? = some (some (.own xs))) (q : Q (.list xs)) (hd : (x == ("__debug__" : Str)) = false := by decide) (hcd : (x == ("__classdict__" : Str)) = false := by decide) :
    WO S (.Name x p) ρ Q := by
  intro X f H0 σ G R H E QV kq
  have z := E.slot i _ hr
  cases hs : σ[i]? with
  | none => rw [hs] at z; exact z.elim
  | some o =>
    cases o with
    | none => rw [hs] at z; exact z.elim
    | some v =>
      rw [hs] at z
      cases v with
      | ref l =>
        obtain ⟨⟨vs, h1, h5⟩, fr⟩ := z
        obtain ⟨h2, h3, h4, _⟩ := fr l (by simp [foot])
        exact WE.by (pe_var (i := i) (by rw [f.N]; exact hN) (by rw [f.sc]; exact hv) hd hcd) ⟨.ref l, hs, kq _ _ G R H q (Stp.refl E.wd) (.own h1 h3 h5)⟩
      | _ => exact z.1.elim
theorem we_glob {d : PyData} {u : Value} (hg : S.sc.names.lookup x = some .globalImplicit) (hm : S.mg x = some u) (q : Q d) {v : V} (r : RelV v u) (h : ∀ G, Dd G v d) (hd : (x == ("__debug__" : Str)) = false := by decide) : WE S (.Name x p) ρ Q := by
  intro X f H0 σ G R H E QV kq
  exact WE.by (pe_glob (by show X.env.scope.names.lookup x = _; rw [f.sc]; exact hg) (by rw [f.mg]; exact hm) r hd) (kq d v G R H q (Stp.refl E.wd) (h G))
theorem we_globI {i : Int} {t : Tok} (hm : S.mg x = some (.int i t)) (q : Q (.int i)) (hg : S.sc.names.lookup x = some .globalImplicit := by rfl) (hd : (x == ("__debug__" : Str)) = false := by decide) : WE S (.Name x p) ρ Q :=
  we_glob (v := .int i) hg hm q ⟨t, rfl⟩ (fun _ => .int i) hd
theorem we_int {i : Int} {k : Nat} (q : Q (.int i)) : WE S (.Constant (.int i) k p) ρ Q := fun X f H0 σ G R H E QV kq => WE.by pe_int (kq _ _ G R H q (Stp.refl E.wd) (.int i))
theorem we_str {i : Str} {k : Nat} (q : Q (.str i)) : WE S (.Constant (.str i) k p) ρ Q := fun X f H0 σ G R H E QV kq => WE.by pe_str (kq _ _ G R H q (Stp.refl E.wd) (.str i))
theorem we_true {k : Nat} (q : Q (.bool true)) : WE S (.Constant (.bool true) k p) ρ Q := fun X f H0 σ G R H E QV kq => WE.by (pe_bl (b := true)) (kq _ _ G R H q (Stp.refl E.wd) (.bl true))
theorem we_false {k : Nat} (q : Q (.bool false)) : WE S (.Constant (.bool false) k p) ρ Q := fun X f H0 σ G R H E QV kq => WE.by (pe_bl (b := false)) (kq _ _ G R H q (Stp.refl E.wd) (.bl false))
theorem we_none {k : Nat} (q : Q .none) : WE S (.Constant .none k p) ρ Q := fun X f H0 σ G R H E QV kq => WE.by pe_non (kq _ _ G R H q (Stp.refl E.wd) .non)
end
end Tee

/-! part D: operators, comparisons, tests, subscripts, displays -/
namespace Tee
open PySem PySem.Spec PyProof.Rows L2

theorem newL {G R H : Hp} {Q : PyData → Prop} {QV : VK} (w : Wd G R H) (kq : KD G R H Q QV) {p : Addr} (hp : H p = none) {vs : List V} {ds : List PyData} (r : DdAll G vs ds) (q : Q (.list ds)) : QV (.ref p) (upd H p (.lst vs)) := by
  have s := Stp.new (o := .lst vs) w hp
  exact kq _ _ _ _ _ q s (.lst upd_same (DdAll.mono s.gg _ _ r))
theorem newT {G R H : Hp} {Q : PyData → Prop} {QV : VK} (w : Wd G R H) (kq : KD G R H Q QV) {p : Addr} (hp : H p = none) {vs : List V} {ds : List PyData} (r : DdAll G vs ds) (q : Q (.tuple ds)) : QV (.ref p) (upd H p (.tup vs)) := by
  have s := Stp.new (o := .tup vs) w hp
  exact kq _ _ _ _ _ q s (.tup upd_same (DdAll.mono s.gg _ _ r))
/-- a value that stood before -/
theorem same {G R H : Hp} {Q : PyData → Prop} {QV : VK} (w : Wd G R H) (kq : KD G R H Q QV) {v : V} {d : PyData} (h : Dd G v d) (q : Q d) : QV v H := kq _ _ _ _ _ q (Stp.refl w) h

def PlusD : PyData → PyData → (PyData → Prop) → Prop
  | .int i, .int j, Q => Q (.int (i + j))
  | .list xs, .list ys, Q => xs.length + ys.length ≤ sizeLine ∧ Q (.list (xs ++ ys))
  | _, _, _ => False
def MinusD : PyData → PyData → (PyData → Prop) → Prop
  | .int i, .int j, Q => Q (.int (i - j))
  | _, _, _ => False
def TimesD : PyData → PyData → (PyData → Prop) → Prop
  | .int i, .int j, Q => CMulW i j ∧ Q (.int (i * j))
  | .list xs, .int k, Q => -(2 ^ 63) ≤ k ∧ k < 2 ^ 63 ∧ xs.length * k.toNat ≤ sizeLine ∧ Q (.list (List.replicate k.toNat xs).flatten)
  | .tuple xs, .int k, Q => xs ≠ [] ∧ 2 ≤ k ∧ k ≤ 1000 ∧ xs.length ≤ 1000 ∧ Q (.tuple (List.replicate k.toNat xs).flatten)
  | _, _, _ => False
def FdivD : PyData → PyData → (PyData → Prop) → Prop
  | .int i, .int j, Q => CDivW i j ∧ Q (.int (i / j))
  | _, _, _ => False
def ModD : PyData → PyData → (PyData → Prop) → Prop
  | .int i, .int j, Q => 0 < j ∧ Q (.int (i % j))
  | _, _, _ => False
def PowD : PyData → PyData → (PyData → Prop) → Prop
  | .int i, .int j, Q => CPow i j ∧ Q (.int (i ^ j.toNat))
  | _, _, _ => False
section
variable {S : Sta} {ρ : Rho} {Q : PyData → Prop} {a b c e : Expr} {es : List Expr} {x : Str} {p pos : Pos}
/-- two operands, then the rest -/
theorem two {X : Cx} (f : Fits S X) {H0 : Hp} {σ : L2.St} {G R H : Hp} (E : EnvR S.K H0 ρ σ G R H) {D : PyData → PyData → Prop} (h : WO S a ρ fun da => WO S b ρ fun db => D da db) {Z : V → V → Hp → Prop}
    (k : ∀ da db v u G2 R2 H2, D da db → Stp G R H G2 R2 H2 → Od G2 R2 H2 v da → Od G2 R2 H2 u db → Z v u H2) : tU X a σ H fun v H1 => tU X b σ H1 fun u H2 => Z v u H2 :=
  h X f H0 σ G R H E _ fun da v G2 R2 H2 hb s dd => hb X f H0 σ G2 R2 H2 (E.step s) _ fun db u G3 R3 H3 q s2 dd2 => k da db v u G3 R3 H3 q (s.trans s2) (dd.step s2) dd2
theorem we_plus (h : WO S a ρ fun da => WO S b ρ fun db => PlusD da db Q) : WE S (.BinOp a .Add b pos) ρ Q := by
  intro X f H0 σ G R H E QV kq pins s I
  have key : ∀ {Z : V → V → Hp → Prop}, (∀ da db v u G2 R2 H2, PlusD da db Q → Stp G R H G2 R2 H2 → Od G2 R2 H2 v da → Od G2 R2 H2 u db → Z v u H2) → tU X a σ H fun v H1 => tU X b σ H1 fun u H2 => Z v u H2 := fun k => two f E h k
  have ho : OpR X (binaryOp .Add) (fun x y H Q' => (∃ i j, x = .int i ∧ y = .int j ∧ Q' (.int (i + j)) H) ∨ rCat x y H Q') := by
    intro pins s σ H x y v u Q' I rx ry h
    rcases h with h | h
    · exact op_add pins s σ H x y v u Q' I rx ry h
    · exact op_cat pins s σ H x y v u Q' I rx ry h
  refine (pe_op ho pe_U pe_U).run pins s σ H QV I (key fun da db v u G2 R2 H2 q st o1 o2 => ?_)
  unfold PlusD at q
  split at q
  · exact .inl ⟨_, _, o1.int, o2.int, same st.wd (fun d v G3 R3 H3 q s3 => kq d v G3 R3 H3 q (st.trans s3)) (.int _) q⟩
  · obtain ⟨l1, v1, e1, h1, r1, _⟩ := o1.list st.wd
    obtain ⟨l2, v2, e2, h2, r2, _⟩ := o2.list st.wd
    exact .inr ⟨l1, l2, v1, v2, e1, e2, h1, h2, by rw [r1.len, r2.len]; exact q.1, fun p hp => newL st.wd (fun d v G3 R3 H3 q s3 => kq d v G3 R3 H3 q (st.trans s3)) hp (r1.app r2) q.2⟩
  · exact q.elim
/-- operators on two ints -/
theorem we_int2 {op : Operator} {C : Int → Int → Prop} {g : Int → Int → Int} (ho : ∀ X, OpR X (binaryOp op) (rI C fun i j => .int (g i j)))
    (h : WO S a ρ fun da => WO S b ρ fun db => ∃ i j, da = .int i ∧ db = .int j ∧ C i j ∧ Q (.int (g i j))) : WE S (.BinOp a op b pos) ρ Q := by
  intro X f H0 σ G R H E QV kq pins s I
  refine (pe_op (ho X) pe_U pe_U).run pins s σ H QV I (two f E h fun da db v u G2 R2 H2 q st o1 o2 => ?_)
  obtain ⟨i, j, rfl, rfl, hc, q⟩ := q
  exact ⟨i, j, o1.int, o2.int, hc, kq _ _ _ _ _ q st (.int _)⟩
theorem we_minus (h : WO S a ρ fun da => WO S b ρ fun db => MinusD da db Q) : WE S (.BinOp a .Sub b pos) ρ Q := by
  refine we_int2 (C := fun _ _ => True) (g := fun i j => i - j) (fun X pins s σ H x y v u Q I rx ry ⟨i, j, e1, e2, _, q⟩ => op_sub pins s σ H x y v u Q I rx ry ⟨i, j, e1, e2, q⟩) (h.mono fun da hb => hb.mono fun db q => ?_)
  unfold MinusD at q
  split at q
  · exact ⟨_, _, rfl, rfl, trivial, q⟩
  · exact q.elim
theorem we_fdiv (h : WO S a ρ fun da => WO S b ρ fun db => FdivD da db Q) : WE S (.BinOp a .FloorDiv b pos) ρ Q := by
  refine we_int2 (C := CDivW) (g := fun i j => i / j) (fun X => op_fdivW) (h.mono fun da hb => hb.mono fun db q => ?_)
  unfold FdivD at q
  split at q
  · exact ⟨_, _, rfl, rfl, q.1, q.2⟩
  · exact q.elim
theorem we_mod (h : WO S a ρ fun da => WO S b ρ fun db => ModD da db Q) : WE S (.BinOp a .Mod b pos) ρ Q := by
  refine we_int2 (C := fun _ j => 0 < j) (g := fun i j => i % j) (fun X => op_mod) (h.mono fun da hb => hb.mono fun db q => ?_)
  unfold ModD at q
  split at q
  · exact ⟨_, _, rfl, rfl, q.1, q.2⟩
  · exact q.elim
theorem we_pow (h : WO S a ρ fun da => WO S b ρ fun db => PowD da db Q) : WE S (.BinOp a .Pow b pos) ρ Q := by
  refine we_int2 (C := CPow) (g := fun i j => i ^ j.toNat) (fun X => op_pow) (h.mono fun da hb => hb.mono fun db q => ?_)
  unfold PowD at q
  split at q
  · exact ⟨_, _, rfl, rfl, q.1, q.2⟩
  · exact q.elim
theorem we_times (h : WO S a ρ fun da => WO S b ρ fun db => TimesD da db Q) : WE S (.BinOp a .Mult b pos) ρ Q := by
  intro X f H0 σ G R H E QV kq pins s I
  have ho : OpR X (binaryOp .Mult) (fun x y H Q' => (∃ i j, x = .int i ∧ y = .int j ∧ CMulW i j ∧ Q' (.int (i * j)) H) ∨ rRep x y H Q' ∨ rRepT X.K x y H Q') := by
    intro pins s σ H x y v u Q' I rx ry h
    rcases h with h | h | h
    · exact op_mulW pins s σ H x y v u Q' I rx ry h
    · exact op_rep pins s σ H x y v u Q' I rx ry h
    · exact op_repT pins s σ H x y v u Q' I rx ry h
  refine (pe_op ho pe_U pe_U).run pins s σ H QV I (two f E h fun da db v u G2 R2 H2 q st o1 o2 => ?_)
  have kq2 : KD G2 R2 H2 Q QV := fun d v G3 R3 H3 q s3 => kq d v G3 R3 H3 q (st.trans s3)
  unfold TimesD at q
  split at q
  · exact .inl ⟨_, _, o1.int, o2.int, q.1, same st.wd kq2 (.int _) q.2⟩
  · obtain ⟨l1, v1, e1, h1, r1, _⟩ := o1.list st.wd
    obtain ⟨q1, q2, q3, q⟩ := q
    exact .inr (.inl ⟨l1, _, v1, e1, o2.int, h1, q1, q2, by rw [r1.len]; exact q3, fun p hp => newL st.wd kq2 hp (r1.rep _) q⟩)
  · obtain ⟨l1, v1, e1, h1, r1, _⟩ := o1.tup st.wd
    obtain ⟨q1, q2, q3, q4, q⟩ := q
    refine .inr (.inr ⟨l1, _, v1, e1, o2.int, SqT.of h1, fun z => ?_, q2, q3, by rw [r1.len]; exact q4, fun p hp => newT st.wd kq2 hp (r1.rep _) q⟩)
    subst z
    cases r1
    exact q1 rfl
  · exact q.elim
theorem we_neg (h : WO S a ρ fun da => ∃ i, da = .int i ∧ Q (.int (-i))) : WE S (.UnaryOp .USub a pos) ρ Q := by
  intro X f H0 σ G R H E QV kq pins s I
  refine (pe_un un_neg pe_U).run pins s σ H QV I (h X f H0 σ G R H E _ fun da v G2 R2 H2 q st o => ?_)
  obtain ⟨i, rfl, q⟩ := q
  exact ⟨i, o.int, kq _ _ _ _ _ q st (.int _)⟩

/-! ### comparisons -/
theorem Dd.dp {K : PySem.W.Frag} {G H : Hp} (e : Same G H) : ∀ (d : PyData) (v : V), d.canLay0 = true → Dd G v d → Dp K H v d := by
  have both : ∀ n : Nat, (∀ (d : PyData) (v : V), sizeOf d < n → d.canLay0 = true → Dd G v d → Dp K H v d) ∧ (∀ (ds : List PyData) (vs : List V), sizeOf ds < n → PyData.canLayAll0 ds = true → DdAll G vs ds → DpAll K H vs ds) := by
    intro n
    induction n with
    | zero => exact ⟨fun _ _ z => absurd z (Nat.not_lt_zero _), fun _ _ z => absurd z (Nat.not_lt_zero _)⟩
    | succ n ih =>
      refine ⟨fun d v z hc h => ?_, fun ds vs z hc h => ?_⟩
      · cases h with
        | non => exact .non
        | bl b => exact .bl b
        | int i => exact .int i
        | str x => exact .str x
        | lst h r =>
          refine .lst (SqL.of (e _ _ h)) (ih.2 _ _ ?_ (by simpa [PyData.canLay0] using hc) r)
          simp only [PyData.list.sizeOf_spec] at z
          omega
        | tup h r =>
          refine .tup (SqT.of (e _ _ h)) (ih.2 _ _ ?_ (by simpa [PyData.canLay0] using hc) r)
          simp only [PyData.tuple.sizeOf_spec] at z
          omega
        | dct0 h => simp [PyData.canLay0] at hc
        | dct1 h => simp [PyData.canLay0] at hc
      · cases h with
        | nil => exact .nil
        | @cons v vs d ds h t =>
          have hc' : d.canLay0 = true ∧ PyData.canLayAll0 ds = true := by simpa [PyData.canLayAll0] using hc
          simp only [List.cons.sizeOf_spec] at z
          exact .cons (ih.1 _ _ (by omega) hc'.1 h) (ih.2 _ _ (by omega) hc'.2 t)
  exact fun d v => (both (sizeOf d + 1)).1 d v (Nat.lt_succ_self _)
theorem DdAll.dp {K : PySem.W.Frag} {G H : Hp} (e : Same G H) : ∀ (ds : List PyData) (vs : List V), PyData.canLayAll0 ds = true → DdAll G vs ds → DpAll K H vs ds
  | [], _, _, h => by cases h; exact .nil
  | d :: ds, _, hc, h => by
    cases h with
    | cons h t =>
      have hc' : d.canLay0 = true ∧ PyData.canLayAll0 ds = true := by simpa [PyData.canLayAll0] using hc
      exact .cons (Dd.dp e _ _ hc'.1 h) (DdAll.dp e _ _ hc'.2 t)
theorem Od.dp {K : PySem.W.Frag} {G R H : Hp} (w : Wd G R H) {d : PyData} {v : V} (hc : d.canLay0 = true) (h : Od G R H v d) : Dp K H v d := by
  cases h with
  | dd h => exact Dd.dp w.gh _ _ hc h
  | own h r q => exact .lst (SqL.of h) (DdAll.dp w.gh _ _ (by simpa [PyData.canLay0] using hc) q)
theorem shaped_lay {d : PyData} (h : SeqAt.shaped d = true) : d.canLay0 = true := by
  unfold SeqAt.shaped at h
  exact (Bool.and_eq_true_iff.mp h).1
def isNone : PyData → Bool
  | .none => true
  | _ => false
/-- what a comparison of two values gives -/
def CmpD : CmpOp → PyData → PyData → (Bool → Prop) → Prop
  | .Eq, .str x, .str y, Q => Q (decide (x = y))
  | .NotEq, .str x, .str y, Q => Q (!decide (x = y))
  | .Eq, d, e, Q => SeqAt.shaped d = true ∧ SeqAt.shaped e = true ∧ Q (PyData.eqv d e)
  | .NotEq, d, e, Q => SeqAt.shaped d = true ∧ SeqAt.shaped e = true ∧ Q (!PyData.eqv d e)
  | .Lt, .int i, .int j, Q => Q (decide (i < j))
  | .LtE, .int i, .int j, Q => Q (decide (i ≤ j))
  | .Gt, .int i, .int j, Q => Q (decide (j < i))
  | .GtE, .int i, .int j, Q => Q (decide (j ≤ i))
  | .Is, .bool i, .bool j, Q => Q (decide (i = j))
  | .IsNot, .bool i, .bool j, Q => Q (!decide (i = j))
  | .Is, d, .none, Q => Q (isNone d)
  | .IsNot, d, .none, Q => Q (!isNone d)
  | _, _, _, _ => False
def rCmp (K : PySem.W.Frag) : CmpOp → R2
  | .Eq => fun x y H Q => rEqD K x y H Q ∨ rEq x y H Q
  | .NotEq => fun x y H Q => rNeD K x y H Q ∨ rNe x y H Q
  | .Lt => rI0 fun i j => .bl (decide (i < j))
  | .LtE => rI0 fun i j => .bl (decide (i ≤ j))
  | .Gt => rI0 fun i j => .bl (decide (j < i))
  | .GtE => rI0 fun i j => .bl (decide (j ≤ i))
  | .Is => fun x y H Q => rIsB x y H Q ∨ (y = .non ∧ Q (.bl (decide (x = .non))) H)
  | .IsNot => fun x y H Q => rNotB x y H Q ∨ (y = .non ∧ Q (.bl (!decide (x = .non))) H)
  | _ => fun _ _ _ _ => False
theorem opr_cmp {X : Cx} (hu : X.A.units + 64 < cLine) : ∀ op : CmpOp, OpR X (compareOp op) (rCmp X.K op)
  | .Eq => fun pins s σ H x y v u Q I rx ry h => h.elim (op_eqD hu pins s σ H x y v u Q I rx ry) (op_eq pins s σ H x y v u Q I rx ry)
  | .NotEq => fun pins s σ H x y v u Q I rx ry h => h.elim (op_neD hu pins s σ H x y v u Q I rx ry) (op_ne pins s σ H x y v u Q I rx ry)
  | .Lt => op_lt
  | .LtE => op_le
  | .Gt => op_gt
  | .GtE => op_ge
  | .Is => fun pins s σ H x y v u Q I rx ry h => h.elim (op_isBl pins s σ H x y v u Q I rx ry) (op_isN pins s σ H x y v u Q I rx ry)
  | .IsNot => fun pins s σ H x y v u Q I rx ry h => h.elim (op_notBl pins s σ H x y v u Q I rx ry) (op_notN pins s σ H x y v u Q I rx ry)
  | .In => fun _ _ _ _ _ _ _ _ _ _ _ _ h => h.elim
  | .NotIn => fun _ _ _ _ _ _ _ _ _ _ _ _ h => h.elim
theorem Dd.isNon {G : Hp} {v : V} {d : PyData} (h : Dd G v d) : decide (v = .non) = isNone d := by cases h <;> rfl
theorem Od.isNon {G R H : Hp} {v : V} {d : PyData} (h : Od G R H v d) : decide (v = .non) = isNone d := by
  cases h with
  | dd h => exact h.isNon
  | own h r q => rfl
theorem str_dec (x y : Str) : decide (V.str x = V.str y) = decide (x = y) := by
  by_cases h : x = y
  · rw [h, decide_eq_true rfl, decide_eq_true rfl]
  · rw [decide_eq_false h, decide_eq_false (fun z => h (V.str.inj z))]
theorem cmp_sound {K : PySem.W.Frag} {G R H : Hp} (w : Wd G R H) {op : CmpOp} {da db : PyData} {v u : V} {Q : Bool → Prop} {QV : VK} (o1 : Od G R H v da) (o2 : Od G R H u db) (q : CmpD op da db Q) (k : ∀ b, Q b → QV (.bl b) H) : rCmp K op v u H QV := by
  unfold CmpD at q
  split at q
  · refine .inr ⟨by rw [o1.str, o2.str]; rfl, ?_⟩
    rw [o1.str, o2.str, str_dec]
    exact k _ q
  · refine .inr ⟨by rw [o1.str, o2.str]; rfl, ?_⟩
    rw [o1.str, o2.str, str_dec]
    exact k _ q
  · exact .inl ⟨_, _, o1.dp w (shaped_lay q.1), o2.dp w (shaped_lay q.2.1), q.1, q.2.1, k _ q.2.2⟩
  · exact .inl ⟨_, _, o1.dp w (shaped_lay q.1), o2.dp w (shaped_lay q.2.1), q.1, q.2.1, k _ q.2.2⟩
  · exact ⟨_, _, o1.int, o2.int, k _ q⟩
  · exact ⟨_, _, o1.int, o2.int, k _ q⟩
  · exact ⟨_, _, o1.int, o2.int, k _ q⟩
  · exact ⟨_, _, o1.int, o2.int, k _ q⟩
  · exact .inl ⟨_, _, o1.bl, o2.bl, k _ q⟩
  · exact .inl ⟨_, _, o1.bl, o2.bl, k _ q⟩
  · exact .inr ⟨o2.non, by rw [o1.isNon]; exact k _ q⟩
  · exact .inr ⟨o2.non, by rw [o1.isNon]; exact k _ q⟩
  · exact q.elim
theorem we_cmp {op : CmpOp} (h : WO S a ρ fun da => WO S b ρ fun db => CmpD op da db fun k => Q (.bool k)) (hm : behindInMarks op b = false := by rfl) : WE S (.Compare a [op] [b] pos) ρ Q := by
  intro X f H0 σ G R H E QV kq pins s I
  refine (pe_cmpR (opr_cmp f.room.units op) pe_U pe_U hm).run pins s σ H QV I (two f E h fun da db v u G2 R2 H2 q st o1 o2 => ?_)
  exact cmp_sound st.wd o1 o2 q fun k q => kq _ _ _ _ _ q st (.bl k)
theorem wt_cmp {op : CmpOp} {Q : Bool → Prop} (h : WO S a ρ fun da => WO S b ρ fun db => CmpD op da db Q) (hm : behindInMarks op b = false := by rfl) : WT S (.Compare a [op] [b] pos) ρ Q := by
  intro X f H0 σ G R H E QV kq pins s I
  refine (pt_cmpR (opr_cmp f.room.units op) pe_U pe_U hm).run pins s σ H QV I (two f E h fun da db v u G2 R2 H2 q st o1 o2 => ?_)
  exact cmp_sound st.wd o1 o2 q fun k q => ⟨k, rfl, kq _ _ _ _ q st⟩
end
end Tee

/-! part E: chains, tests, subscripts, displays, built-in functions -/
namespace Tee
open PySem PySem.Spec PyProof.Rows L2

section
variable {S : Sta} {ρ : Rho} {Q : PyData → Prop} {a b c e : Expr} {es rest : List Expr} {x : Str} {p pos : Pos}
theorem cmp_step {K : PySem.W.Frag} {G R H : Hp} (w : Wd G R H) {op : CmpOp} {da db : PyData} {v u : V} {Q : Bool → Prop} {QV : VK} (o1 : Od G R H v da) (o2 : Od G R H u db) (q : CmpD op da db Q) (k : ∀ b, Q b → QV (.bl b) H) : rCmp K op v u H QV := cmp_sound w o1 o2 q k
theorem we_chain {op op' : CmpOp} (h : WO S a ρ fun da => WO S b ρ fun db => CmpD op da db fun k => (k = true → WO S c ρ fun dc => CmpD op' db dc fun k => Q (.bool k)) ∧ (k = false → Q (.bool false)))
    (hm : lastMarks [op, op'] [b, c] = false := by with_unfolding_all rfl) : WE S (.Compare a [op, op'] [b, c] pos) ρ Q := by
  intro X f H0 σ G R H E QV kq pins s I
  refine (pe_chain (opr_cmp f.room.units op) (opr_cmp f.room.units op') pe_U pe_U pe_U hm).run pins s σ H QV I (two f E h fun da db v u G2 R2 H2 q st o1 o2 => ?_)
  refine cmp_sound st.wd o1 o2 q fun k q => ⟨k, rfl, ?_⟩
  cases k with
  | true =>
    rw [if_pos rfl]
    exact (q.1 rfl) X f H0 σ G2 R2 H2 (E.step st) _ fun dc z G3 R3 H3 q3 s3 o3 => cmp_sound s3.wd (o2.step s3) o3 q3 fun k q4 => kq _ _ _ _ _ q4 (st.trans s3) (.bl k)
  | false =>
    rw [if_neg (by decide)]
    exact kq _ _ _ _ _ (q.2 rfl) st (.bl false)
theorem we_one {op : BoolOp} (h : WE S a ρ Q) : WE S (.BoolOp op [a] pos) ρ Q := fun X f H0 σ G R H E QV kq => WE.by (pe_one pe_U) (h X f H0 σ G R H E QV kq)
theorem we_and (h : WE S a ρ fun da => ∃ k, da = .bool k ∧ (k = true → WE S (.BoolOp .And (b :: rest) pos) ρ Q) ∧ (k = false → Q (.bool false))) : WE S (.BoolOp .And (a :: b :: rest) pos) ρ Q := by
  intro X f H0 σ G R H E QV kq
  refine WE.by (pe_and pe_U pe_U) (h X f H0 σ G R H E _ fun da v G2 R2 H2 q st dd => ?_)
  obtain ⟨k, rfl, q1, q2⟩ := q
  cases dd
  refine ⟨k, rfl, ?_⟩
  cases k with
  | true =>
    rw [if_pos rfl]
    exact q1 rfl X f H0 σ G2 R2 H2 (E.step st) QV fun d v G3 R3 H3 q s3 => kq d v G3 R3 H3 q (st.trans s3)
  | false =>
    rw [if_neg (by decide)]
    exact kq _ _ _ _ _ (q2 rfl) st (.bl false)
theorem we_or (h : WE S a ρ fun da => ∃ k, da = .bool k ∧ (k = false → WE S (.BoolOp .Or (b :: rest) pos) ρ Q) ∧ (k = true → Q (.bool true))) : WE S (.BoolOp .Or (a :: b :: rest) pos) ρ Q := by
  intro X f H0 σ G R H E QV kq
  refine WE.by (pe_or pe_U pe_U) (h X f H0 σ G R H E _ fun da v G2 R2 H2 q st dd => ?_)
  obtain ⟨k, rfl, q1, q2⟩ := q
  cases dd
  refine ⟨k, rfl, ?_⟩
  cases k with
  | false =>
    rw [if_neg (by decide)]
    exact q1 rfl X f H0 σ G2 R2 H2 (E.step st) QV fun d v G3 R3 H3 q s3 => kq d v G3 R3 H3 q (st.trans s3)
  | true =>
    rw [if_pos rfl]
    exact kq _ _ _ _ _ (q2 rfl) st (.bl true)
theorem we_not (h : WE S a ρ fun da => ∃ k, da = .bool k ∧ Q (.bool (!k))) : WE S (.UnaryOp .Not a pos) ρ Q := by
  intro X f H0 σ G R H E QV kq
  refine WE.by (pe_not pe_U) (h X f H0 σ G R H E _ fun da v G2 R2 H2 q st dd => ?_)
  obtain ⟨k, rfl, q⟩ := q
  cases dd
  exact ⟨k, rfl, kq _ _ _ _ _ q st (.bl _)⟩
theorem we_ifExp (h : WT S c ρ fun k => (k = true → WE S a ρ Q) ∧ (k = false → WE S b ρ Q)) : WE S (.IfExp c a b pos) ρ Q := by
  intro X f H0 σ G R H E QV kq
  refine WE.by (pe_ifExp pt_U pe_U pe_U) (h X f H0 σ G R H E _ fun k G2 R2 H2 q st => ?_)
  have kq2 : KD G2 R2 H2 Q QV := fun d v G3 R3 H3 q s3 => kq d v G3 R3 H3 q (st.trans s3)
  cases k with
  | true =>
    rw [if_pos rfl]
    exact q.1 rfl X f H0 σ G2 R2 H2 (E.step st) QV kq2
  | false =>
    rw [if_neg (by decide)]
    exact q.2 rfl X f H0 σ G2 R2 H2 (E.step st) QV kq2

/-! ### tests -/
theorem wt_val {Q : Bool → Prop} (h : WE S e ρ fun d => ∃ k, d = .bool k ∧ Q k) (he : ∀ env whole, isTrue e env whole = (do let v ← whole; standAt e.pos; holding [v] (truthy v)) := by intro _ _; rfl) : WT S e ρ Q := by
  intro X f H0 σ G R H E QV kq
  refine WT.by (pt_val pe_U (he _)) (h X f H0 σ G R H E _ fun d v G2 R2 H2 q st dd => ?_)
  obtain ⟨k, rfl, q⟩ := q
  cases dd
  exact ⟨k, rfl, kq _ _ _ _ q st⟩
def TruD : PyData → (Bool → Prop) → Prop
  | .none, Q => Q false
  | .bool b, Q => Q b
  | .int i, Q => Q (i != 0)
  | .list xs, Q => Q (!xs.isEmpty)
  | .tuple xs, Q => Q (!xs.isEmpty)
  | _, _ => False
theorem DdAll.empty {G : Hp} {vs : List V} {ds : List PyData} (h : DdAll G vs ds) : vs.isEmpty = ds.isEmpty := by cases h <;> rfl
theorem wt_truth {Q : Bool → Prop} (h : WO S e ρ fun d => TruD d Q) (he : ∀ env whole, isTrue e env whole = (do let v ← whole; standAt e.pos; holding [v] (truthy v)) := by intro _ _; rfl) : WT S e ρ Q := by
  intro X f H0 σ G R H E QV kq
  refine WT.by (pt_truth pe_U (he _)) (h X f H0 σ G R H E _ fun d v G2 R2 H2 q st o => ?_)
  replace q : TruD d Q := q
  unfold TruD at q
  split at q
  · rw [o.non]; exact ⟨false, rfl, kq _ _ _ _ q st⟩
  · rw [o.bl]; exact ⟨_, rfl, kq _ _ _ _ q st⟩
  · rw [o.int]; exact ⟨_, rfl, kq _ _ _ _ q st⟩
  · obtain ⟨l, vs, rfl, h1, r, _⟩ := o.list st.wd
    exact ⟨_, .inl ⟨vs, SqL.of h1, rfl⟩, by rw [r.empty]; exact kq _ _ _ _ q st⟩
  · obtain ⟨l, vs, rfl, h1, r, _⟩ := o.tup st.wd
    exact ⟨_, .inr (.inl ⟨vs, SqT.of h1, rfl⟩), by rw [r.empty]; exact kq _ _ _ _ q st⟩
  · exact q.elim
theorem wt_not {Q : Bool → Prop} (h : WT S a ρ fun k => Q (!k)) : WT S (.UnaryOp .Not a pos) ρ Q := fun X f H0 σ G R H E QV kq =>
  WT.by (pt_not pt_U) (h X f H0 σ G R H E _ fun k G2 R2 H2 q st => kq _ _ _ _ q st)
theorem wt_bool {op : BoolOp} {Q : Bool → Prop} (h : WW S (.BoolOp op es pos) ρ Q) : WT S (.BoolOp op es pos) ρ Q := fun X f H0 σ G R H E QV kq => WT.by pw_U.pt (h X f H0 σ G R H E QV kq)
theorem ww_and1 {Q : Bool → Prop} (h : WT S a ρ Q) : WW S (.BoolOp .And [a] pos) ρ Q := fun X f H0 σ G R H E QV kq => WW.by (pw_and1 pt_U) (h X f H0 σ G R H E QV kq)
theorem ww_or1 {Q : Bool → Prop} (h : WT S a ρ Q) : WW S (.BoolOp .Or [a] pos) ρ Q := fun X f H0 σ G R H E QV kq => WW.by (pw_or1 pt_U) (h X f H0 σ G R H E QV kq)
theorem ww_and {Q : Bool → Prop} (h : WT S a ρ fun k => (k = true → WW S (.BoolOp .And (b :: rest) pos) ρ Q) ∧ (k = false → Q false)) : WW S (.BoolOp .And (a :: b :: rest) pos) ρ Q := fun X f H0 σ G R H E QV kq =>
  WW.by (pw_and pt_U pw_U) (h X f H0 σ G R H E _ fun k G2 R2 H2 q st => by
    cases k with
    | true =>
      rw [if_pos rfl]
      exact q.1 rfl X f H0 σ G2 R2 H2 (E.step st) QV fun d G3 R3 H3 q s3 => kq d G3 R3 H3 q (st.trans s3)
    | false =>
      rw [if_neg (by decide)]
      exact kq _ _ _ _ (q.2 rfl) st)
theorem ww_or {Q : Bool → Prop} (h : WT S a ρ fun k => (k = false → WW S (.BoolOp .Or (b :: rest) pos) ρ Q) ∧ (k = true → Q true)) : WW S (.BoolOp .Or (a :: b :: rest) pos) ρ Q := fun X f H0 σ G R H E QV kq =>
  WW.by (pw_or pt_U pw_U) (h X f H0 σ G R H E _ fun k G2 R2 H2 q st => by
    cases k with
    | false =>
      rw [if_neg (by decide)]
      exact q.1 rfl X f H0 σ G2 R2 H2 (E.step st) QV fun d G3 R3 H3 q s3 => kq d G3 R3 H3 q (st.trans s3)
    | true =>
      rw [if_pos rfl]
      exact kq _ _ _ _ (q.2 rfl) st)

/-! ### subscripts, slices -/
def IxD : PyData → PyData → (PyData → Prop) → Prop
  | .list xs, .int i, Q => ∃ d, atI xs i = some d ∧ Q d
  | .tuple xs, .int i, Q => ∃ d, atI xs i = some d ∧ Q d
  | _, _, _ => False
theorem we_ix (h : WO S a ρ fun da => WO S b ρ fun db => IxD da db Q) (hs : PlainIx b := by exact fun _ _ => rfl) : WE S (.Subscript a b pos) ρ Q := by
  intro X f H0 σ G R H E QV kq pins s I
  refine (pe_ix (r := fun x y H Q' => rIxL X.K x y H Q' ∨ rIxT X.K x y H Q') (ix_list.or ix_tup) pe_U pe_U hs).run pins s σ H QV I (two f E h fun da db v u G2 R2 H2 q st o1 o2 => ?_)
  unfold IxD at q
  split at q
  · obtain ⟨d, e, q⟩ := q
    obtain ⟨l, vs, rfl, h1, r, _⟩ := o1.list st.wd
    obtain ⟨z, e1, dz⟩ := r.ix e
    exact .inl ⟨l, vs, _, z, rfl, o2.int, SqL.of h1, e1, kq _ _ _ _ _ q st dz⟩
  · obtain ⟨d, e, q⟩ := q
    obtain ⟨l, vs, rfl, h1, r, _⟩ := o1.tup st.wd
    obtain ⟨z, e1, dz⟩ := r.ix e
    exact .inr ⟨l, vs, _, z, rfl, o2.int, SqT.of h1, e1, kq _ _ _ _ _ q st dz⟩
  · exact q.elim
/-- a slice's part -/
def WPa (S : Sta) (o : Option Expr) (ρ : Rho) (Q : Option Int → Prop) : Prop :=
  ∀ X, Fits S X → ∃ t, PO X o t ∧ ∀ H0 σ G R H, EnvR S.K H0 ρ σ G R H → ∀ QV : Option Int → Hp → Prop, (∀ i G2 R2 H2, Q i → Stp G R H G2 R2 H2 → QV i H2) → t σ H QV
theorem wp_none {Q : Option Int → Prop} (q : Q none) : WPa S none ρ Q := fun X f => ⟨_, po_none, fun H0 σ G R H E QV kq => kq _ _ _ _ q (Stp.refl E.wd)⟩
theorem wp_some {Q : Option Int → Prop} (h : WO S e ρ fun d => ∃ i, d = .int i ∧ Q (some i)) : WPa S (some e) ρ Q := fun X f => ⟨_, po_some pe_U, fun H0 σ G R H E QV kq =>
  h X f H0 σ G R H E _ fun d v G2 R2 H2 ⟨i, e1, q⟩ st o => by
    subst e1
    exact ⟨i, o.int, kq _ _ _ _ q st⟩⟩
def SliD : PyData → Option Int → Option Int → (PyData → Prop) → Prop
  | .list xs, lo, hi, Q => Q (.list (cutD xs lo hi))
  | .tuple xs, lo, hi, Q => Q (.tuple (cutD xs lo hi))
  | _, _, _, _ => False
theorem we_slice {lo hi : Option Expr} {p2 : Pos} (h : WO S a ρ fun d => WPa S lo ρ fun i => WPa S hi ρ fun j => SliD d i j Q) : WE S (.Subscript a (.Slice lo hi none p2) pos) ρ Q := by
  intro X f H0 σ G R H E QV kq
  -- the readings of the parts are those of X alone
  by_cases hlo : ∃ tl, PO X lo tl
  · by_cases hhi : ∃ th, PO X hi th
    · refine fun pins s I => ?_
      let tl : TO := fun σ H Q' => ∀ pins s, Inv X pins σ H s → wpAny (model X.prog X.w) X.A (evalPart lo X.env) (fun u s' => ∃ o H', Inv X pins σ H' s' ∧ IsPart u o ∧ Q' o H') X.xe s
      let th : TO := fun σ H Q' => ∀ pins s, Inv X pins σ H s → wpAny (model X.prog X.w) X.A (evalPart hi X.env) (fun u s' => ∃ o H', Inv X pins σ H' s' ∧ IsPart u o ∧ Q' o H') X.xe s
      have pl : PO X lo tl := ⟨fun pins s σ H Q' I h => h pins s I⟩
      have ph : PO X hi th := ⟨fun pins s σ H Q' I h => h pins s I⟩
      refine (pe_slice (r := fun x lo hi H Q' => rSlL X.K x lo hi H Q' ∨ rSlA X.K x lo hi H Q') (sl_list.or sl_tupA) pe_U pl ph).run pins s σ H QV I (h X f H0 σ G R H E _ fun d v G2 R2 H2 q st o => ?_)
      obtain ⟨t1, p1, h1⟩ := q X f
      refine fun pins1 s1 I1 => p1.run pins1 s1 σ H2 _ I1 (h1 H0 σ G2 R2 H2 (E.step st) _ fun i G3 R3 H3 q3 st3 => ?_)
      obtain ⟨t2, p2, h2⟩ := q3 X f
      refine fun pins2 s2 I2 => p2.run pins2 s2 σ H3 _ I2 (h2 H0 σ G3 R3 H3 ((E.step st).step st3) _ fun j G4 R4 H4 q4 st4 => ?_)
      have o4 := (o.step st3).step st4
      have kq2 : KD G4 R4 H4 Q QV := fun d v G5 R5 H5 q s5 => kq d v G5 R5 H5 q (((st.trans st3).trans st4).trans s5)
      replace q4 : SliD d i j Q := q4
      unfold SliD at q4
      split at q4
      · obtain ⟨l, vs, rfl, e1, r, _⟩ := o4.list st4.wd
        exact .inl ⟨l, vs, rfl, SqL.of e1, fun p hp => newL st4.wd kq2 hp (r.cut _ _) q4⟩
      · rename_i xs
        obtain ⟨l, vs, rfl, e1, r, dd⟩ := o4.tup st4.wd
        refine .inr ⟨l, vs, rfl, SqT.of e1, fun hw => ?_, fun _ p hp => newT st4.wd kq2 hp (r.cut _ _) q4⟩
        have ew : cutD xs i j = xs := by
          rw [r.len] at hw
          unfold cutD
          rw [hw.1, hw.2]
          exact List.take_of_length_le (by rw [List.length_drop]; exact Nat.le_refl _)
        rw [ew] at q4
        exact kq2 _ _ G4 R4 H4 q4 (Stp.refl st4.wd) dd
      · exact q4.elim
    · cases hi with
      | none => exact absurd ⟨_, po_none⟩ hhi
      | some e => exact absurd ⟨_, po_some pe_U⟩ hhi
  · cases lo with
    | none => exact absurd ⟨_, po_none⟩ hlo
    | some e => exact absurd ⟨_, po_some pe_U⟩ hlo

/-! ### lists of values, displays -/
def WD (S : Sta) (es : List Expr) (ρ : Rho) (Q : List PyData → Prop) : Prop :=
  ∀ X, Fits S X → ∀ H0 σ G R H, EnvR S.K H0 ρ σ G R H → ∃ t, PA X es t ∧ ∀ QV : List V → Hp → Prop, (∀ ds vs G2 R2 H2, Q ds → Stp G R H G2 R2 H2 → DdAll G2 vs ds → QV vs H2) → t σ H QV
def tUA (X : Cx) (es : List Expr) : TA := fun σ H Q => ∀ pos pins s, Inv X pins σ H s → wpAny (model X.prog X.w) X.A (spliced (backTo pos (starEach es X.env))) (AP X pins σ Q) X.xe s
theorem pa_U {X : Cx} {es : List Expr} : PA X es (tUA X es) := ⟨fun pos pins s σ H Q I h => h pos pins s I⟩
theorem wd_nil {Q : List PyData → Prop} (q : Q []) : WD S [] ρ Q := fun X f H0 σ G R H E => ⟨_, pa_nil, fun QV kq => kq _ _ _ _ _ q (Stp.refl E.wd) .nil⟩
theorem wd_cons {Q : List PyData → Prop} (h : WE S e ρ fun d => WD S es ρ fun ds => Q (d :: ds)) (hs : ∀ env, starEach (e :: es) env = (false, eval e env) :: starEach es env := by intro _; rfl) : WD S (e :: es) ρ Q := by
  intro X f H0 σ G R H E
  refine ⟨_, pa_cons pe_U pa_U (hs _), fun QV kq => h X f H0 σ G R H E _ fun d v G2 R2 H2 q st dd => ?_⟩
  obtain ⟨t, pt, ht⟩ := q X f H0 σ G2 R2 H2 (E.step st)
  exact fun pos pins s I => pt.run pos pins s σ H2 _ I (ht _ fun ds vs G3 R3 H3 q3 s3 dd3 => kq _ _ _ _ _ q3 (st.trans s3) (.cons (Dd.mono s3.gg _ _ dd) dd3))
theorem we_list (h : WD S es ρ fun ds => ds.length ≤ sizeLine ∧ Q (.list ds)) : WE S (.List es pos) ρ Q := by
  intro X f H0 σ G R H E QV kq
  obtain ⟨t, pt, ht⟩ := h X f H0 σ G R H E
  exact WE.by (pe_lst pt) (ht _ fun ds vs G2 R2 H2 q st dd => ⟨by rw [dd.len]; exact q.1, fun p hp => newL st.wd (fun d v G3 R3 H3 q s3 => kq d v G3 R3 H3 q (st.trans s3)) hp dd q.2⟩)
theorem we_tuple {k : Nat} (h : WD S es ρ fun ds => ds.length ≤ sizeLine ∧ Q (.tuple ds)) : WE S (.Tuple es k pos) ρ Q := by
  intro X f H0 σ G R H E QV kq
  obtain ⟨t, pt, ht⟩ := h X f H0 σ G R H E
  exact WE.by (pe_tup pt) (ht _ fun ds vs G2 R2 H2 q st dd => ⟨by rw [dd.len]; exact q.1, fun p hp => newT st.wd (fun d v G3 R3 H3 q s3 => kq d v G3 R3 H3 q (st.trans s3)) hp dd q.2⟩)
theorem we_dict0 (q : Q (.dict [])) : WE S (.Dict [] [] pos) ρ Q := by
  intro X f H0 σ G R H E QV kq
  exact WE.by pe_dnewK fun p hp => kq _ _ _ _ _ q (Stp.new (o := .dK []) E.wd hp) (.dct0 upd_same)
theorem we_dict1 {k : Str} {i : Int} {u1 u2 : Nat} {p1 p2 : Pos} (q : Q (.dict [(.str k, .int i)])) : WE S (.Dict [some (.Constant (.str k) u1 p1)] [.Constant (.int i) u2 p2] pos) ρ Q := by
  intro X f H0 σ G R H E QV kq
  refine WE.by (pe_disp (pps_cons pe_str pe_int pps_nil) rfl rfl (fun z => by cases z) (by simp)) fun p hp => ?_
  refine ⟨upd_same, [(.inr k, .int i)], rfl, by simp, ?_⟩
  have e : upd (upd H p (.dK [])) p (.dK (mergeK [] [(.inr k, .int i)])) = upd H p (.dK [(.inr k, .int i)]) := upd_upd
  rw [e]
  exact kq _ _ _ _ _ q (Stp.new (o := .dK [(.inr k, .int i)]) E.wd hp) (.dct1 upd_same)
end
end Tee

/-! part F: calls of built-in functions, of defs; comprehensions -/
namespace Tee
open PySem PySem.Spec PyProof.Rows L2

/-- a name of the module, or built-in -/
def Gb (S : Sta) (x : Str) : Prop := S.sc.names.lookup x = some .globalImplicit
theorem gb_of {S : Sta} {X : Cx} (f : Fits S X) {x : Str} (h : Gb S x) : Gl X x := by
  show X.env.scope.names.lookup x = _
  rw [f.sc]
  exact h
section
variable {S : Sta} {ρ : Rho} {Q : PyData → Prop} {a b c e : Expr} {es rest : List Expr} {x : Str} {p pos : Pos}
/-- a built-in function of one value -/
theorem we_b1 {id : String} {D : PyData → (PyData → Prop) → Prop} {r : Cx → List V → Hp → VK → Prop} (hc : ∀ X, Fits S X → CallR X (.builtin id) (r X))
    (hr : ∀ X, Fits S X → ∀ G R H v d (Q : PyData → Prop) (QV : VK), Wd G R H → Od G R H v d → D d Q → KD G R H Q QV → r X [v] H QV)
    (h : WO S a ρ fun d => D d Q) (hv : bootBuiltins x = some (.builtin id)) (hm : S.mg x = none) (hg : Gb S x := by rfl)
    (hn : x ≠ "__name__" := by decide) (hdb : (x == ("__debug__" : Str)) = false := by decide)
    (he : ∀ env, starEach [a] env = (false, eval a env) :: starEach [] env := by intro _; rfl) : WE S (.Call (.Name x p) [a] [] pos) ρ Q := by
  intro X f H0 σ G R H E QV kq
  refine WE.by (pe_callB (hc X f) (gb_of f hg) (by rw [f.mg]; exact hm) hv (pa_cons pe_U pa_nil (he _)) hn hdb (he _) rfl) ?_
  exact h X f H0 σ G R H E _ fun d v G2 R2 H2 q st o => hr X f G2 R2 H2 v d Q QV st.wd o q fun d v G3 R3 H3 q s3 => kq d v G3 R3 H3 q (st.trans s3)
theorem we_t1 {id : String} {D : PyData → (PyData → Prop) → Prop} {r : Cx → List V → Hp → VK → Prop} (hc : ∀ X, Fits S X → CallR X (.type id) (r X))
    (hr : ∀ X, Fits S X → ∀ G R H v d (Q : PyData → Prop) (QV : VK), Wd G R H → Od G R H v d → D d Q → KD G R H Q QV → r X [v] H QV)
    (h : WO S a ρ fun d => D d Q) (hv : bootBuiltins x = some (.type id)) (hm : S.mg x = none) (hg : Gb S x := by rfl)
    (hn : x ≠ "__name__" := by decide) (hdb : (x == ("__debug__" : Str)) = false := by decide)
    (he : ∀ env, starEach [a] env = (false, eval a env) :: starEach [] env := by intro _; rfl) : WE S (.Call (.Name x p) [a] [] pos) ρ Q := by
  intro X f H0 σ G R H E QV kq
  refine WE.by (pe_callTy (hc X f) (gb_of f hg) (by rw [f.mg]; exact hm) hv (pa_cons pe_U pa_nil (he _)) hn hdb (he _) rfl) ?_
  exact h X f H0 σ G R H E _ fun d v G2 R2 H2 q st o => hr X f G2 R2 H2 v d Q QV st.wd o q fun d v G3 R3 H3 q s3 => kq d v G3 R3 H3 q (st.trans s3)
theorem we_b2 {id : String} {D : PyData → PyData → (PyData → Prop) → Prop} {r : Cx → List V → Hp → VK → Prop} (hc : ∀ X, Fits S X → CallR X (.builtin id) (r X))
    (hr : ∀ X, Fits S X → ∀ G R H v u d d' (Q : PyData → Prop) (QV : VK), Wd G R H → Od G R H v d → Od G R H u d' → D d d' Q → KD G R H Q QV → r X [v, u] H QV)
    (h : WO S a ρ fun d => WO S b ρ fun d' => D d d' Q) (hv : bootBuiltins x = some (.builtin id)) (hm : S.mg x = none) (hg : Gb S x := by rfl)
    (hn : x ≠ "__name__" := by decide) (hdb : (x == ("__debug__" : Str)) = false := by decide)
    (he : ∀ env, starEach [a, b] env = (false, eval a env) :: starEach [b] env := by intro _; rfl) (he2 : ∀ env, starEach [b] env = (false, eval b env) :: starEach [] env := by intro _; rfl)
    (hpl : ∀ env, (backTo pos (starEach [b] env)).any (·.1) = false := by intro _; rfl) : WE S (.Call (.Name x p) [a, b] [] pos) ρ Q := by
  intro X f H0 σ G R H E QV kq
  refine WE.by (pe_callB (hc X f) (gb_of f hg) (by rw [f.mg]; exact hm) hv (pa_cons pe_U (pa_cons pe_U pa_nil (he2 _)) (he _)) hn hdb (he _) (hpl _)) ?_
  exact two (Z := fun v u H2 => r X [v, u] H2 QV) f E h fun da db v u G2 R2 H2 q st o1 o2 => hr X f G2 R2 H2 v u da db Q QV st.wd o1 o2 q fun d v G3 R3 H3 q s3 => kq d v G3 R3 H3 q (st.trans s3)

def LenD : PyData → (PyData → Prop) → Prop
  | .list xs, Q => Q (.int (xs.length : Int))
  | .tuple xs, Q => Q (.int (xs.length : Int))
  | _, _ => False
theorem we_len {x : Str} (h : WO S a ρ fun d => LenD d Q) (hm : S.mg x = none) (hv : bootBuiltins x = some (.builtin "len") := by exact PySem.boot_len) (hg : Gb S x := by rfl)
    (hn : x ≠ "__name__" := by decide) (hdb : (x == ("__debug__" : Str)) = false := by decide) (he : ∀ env, starEach [a] env = (false, eval a env) :: starEach [] env := by intro _; rfl) : WE S (.Call (.Name x p) [a] [] pos) ρ Q :=
  we_b1 (D := LenD) (fun X f => call_len_seq) (fun X f G R H v d Q QV w o q kq => by
    unfold LenD at q
    split at q
    · obtain ⟨l, vs, rfl, h1, r, _⟩ := o.list w
      exact ⟨l, vs, rfl, .inl (SqL.of h1), by rw [r.len]; exact same w kq (.int _) q⟩
    · obtain ⟨l, vs, rfl, h1, r, _⟩ := o.tup w
      exact ⟨l, vs, rfl, .inr (SqT.of h1), by rw [r.len]; exact same w kq (.int _) q⟩
    · exact q.elim) h hv hm hg hn hdb he
def SumD : PyData → (PyData → Prop) → Prop := fun d Q => ∃ ns : List Int, d = .list (ns.map .int) ∧ Q (.int ns.sum)
theorem we_sum (h : WO S a ρ fun d => SumD d Q) (hm : S.mg "sum" = none) (hg : Gb S "sum" := by rfl)
    (he : ∀ env, starEach [a] env = (false, eval a env) :: starEach [] env := by intro _; rfl) : WE S (.Call (.Name "sum" p) [a] [] pos) ρ Q :=
  we_b1 (D := SumD) (fun X f => cr_sum f.calm) (fun X f G R H v d Q QV w o q kq => by
    obtain ⟨ns, rfl, q⟩ := q
    obtain ⟨l, vs, rfl, h1, r, _⟩ := o.list w
    have e := DdAll.intsV ns r
    subst e
    exact ⟨l, ns, rfl, SqL.of h1, same w kq (.int _) q⟩) h (by exact boot_sum) hm hg (by decide) (by decide) he
def MaxD : PyData → (PyData → Prop) → Prop := fun d Q => ∃ ns : List Int, d = .list (ns.map .int) ∧ 0 < ns.length ∧ ∀ m, m ∈ ns → (∀ y ∈ ns, y ≤ m) → Q (.int m)
def MinD : PyData → (PyData → Prop) → Prop := fun d Q => ∃ ns : List Int, d = .list (ns.map .int) ∧ 0 < ns.length ∧ ∀ m, m ∈ ns → (∀ y ∈ ns, m ≤ y) → Q (.int m)
theorem we_max (h : WO S a ρ fun d => MaxD d Q) (hm : S.mg "max" = none) (hg : Gb S "max" := by rfl)
    (he : ∀ env, starEach [a] env = (false, eval a env) :: starEach [] env := by intro _; rfl) : WE S (.Call (.Name "max" p) [a] [] pos) ρ Q :=
  we_b1 (D := MaxD) (fun X f => cr_max f.calm) (fun X f G R H v d Q QV w o q kq => by
    obtain ⟨ns, rfl, h0, q⟩ := q
    obtain ⟨l, vs, rfl, h1, r, _⟩ := o.list w
    have e := DdAll.intsV ns r
    subst e
    exact ⟨l, ns, rfl, SqL.of h1, h0, fun m hm hle => same w kq (.int _) (q m hm hle)⟩) h (by exact boot_max) hm hg (by decide) (by decide) he
theorem we_min (h : WO S a ρ fun d => MinD d Q) (hm : S.mg "min" = none) (hg : Gb S "min" := by rfl)
    (he : ∀ env, starEach [a] env = (false, eval a env) :: starEach [] env := by intro _; rfl) : WE S (.Call (.Name "min" p) [a] [] pos) ρ Q :=
  we_b1 (D := MinD) (fun X f => cr_min f.calm) (fun X f G R H v d Q QV w o q kq => by
    obtain ⟨ns, rfl, h0, q⟩ := q
    obtain ⟨l, vs, rfl, h1, r, _⟩ := o.list w
    have e := DdAll.intsV ns r
    subst e
    exact ⟨l, ns, rfl, SqL.of h1, h0, fun m hm hle => same w kq (.int _) (q m hm hle)⟩) h (by exact boot_min) hm hg (by decide) (by decide) he
def Max2D : PyData → PyData → (PyData → Prop) → Prop
  | .int i, .int j, Q => Q (.int (if j > i then j else i))
  | _, _, _ => False
def Min2D : PyData → PyData → (PyData → Prop) → Prop
  | .int i, .int j, Q => Q (.int (if j < i then j else i))
  | _, _, _ => False
theorem we_max2 (h : WO S a ρ fun d => WO S b ρ fun d' => Max2D d d' Q) (hm : S.mg "max" = none) (hg : Gb S "max" := by rfl)
    (he : ∀ env, starEach [a, b] env = (false, eval a env) :: starEach [b] env := by intro _; rfl) (he2 : ∀ env, starEach [b] env = (false, eval b env) :: starEach [] env := by intro _; rfl)
    (hpl : ∀ env, (backTo pos (starEach [b] env)).any (·.1) = false := by intro _; rfl) : WE S (.Call (.Name "max" p) [a, b] [] pos) ρ Q :=
  we_b2 (D := Max2D) (fun X f => call_max2 f.calm) (fun X f G R H v u d d' Q QV w o1 o2 q kq => by
    unfold Max2D at q
    split at q
    · exact ⟨_, _, by rw [o1.int, o2.int], same w kq (.int _) q⟩
    · exact q.elim) h (by exact boot_max) hm hg (by decide) (by decide) he he2 hpl
theorem we_min2 (h : WO S a ρ fun d => WO S b ρ fun d' => Min2D d d' Q) (hm : S.mg "min" = none) (hg : Gb S "min" := by rfl)
    (he : ∀ env, starEach [a, b] env = (false, eval a env) :: starEach [b] env := by intro _; rfl) (he2 : ∀ env, starEach [b] env = (false, eval b env) :: starEach [] env := by intro _; rfl)
    (hpl : ∀ env, (backTo pos (starEach [b] env)).any (·.1) = false := by intro _; rfl) : WE S (.Call (.Name "min" p) [a, b] [] pos) ρ Q :=
  we_b2 (D := Min2D) (fun X f => call_min2 f.calm) (fun X f G R H v u d d' Q QV w o1 o2 q kq => by
    unfold Min2D at q
    split at q
    · exact ⟨_, _, by rw [o1.int, o2.int], same w kq (.int _) q⟩
    · exact q.elim) h (by exact boot_min) hm hg (by decide) (by decide) he he2 hpl
def IntD : PyData → (PyData → Prop) → Prop
  | .int i, Q => Q (.int i)
  | .bool k, Q => Q (.int (if k then 1 else 0))
  | _, _ => False
theorem we_toInt (h : WO S a ρ fun d => IntD d Q) (hm : S.mg "int" = none) (hg : Gb S "int" := by rfl)
    (he : ∀ env, starEach [a] env = (false, eval a env) :: starEach [] env := by intro _; rfl) : WE S (.Call (.Name "int" p) [a] [] pos) ρ Q :=
  we_t1 (D := IntD) (fun X f => call_int1) (fun X f G R H v d Q QV w o q kq => by
    unfold IntD at q
    split at q
    · exact .inl ⟨_, by rw [o.int], same w kq (.int _) q⟩
    · exact .inr ⟨_, by rw [o.bl], same w kq (.int _) q⟩
    · exact q.elim) h (by exact PyProof.Rows.boot_int) hm hg (by decide) (by decide) he
def TupD : PyData → (PyData → Prop) → Prop
  | .list xs, Q => Q (.tuple xs)
  | .tuple xs, Q => Q (.tuple xs)
  | _, _ => False
theorem we_toTup (h : WO S a ρ fun d => TupD d Q) (hm : S.mg "tuple" = none) (hg : Gb S "tuple" := by rfl)
    (he : ∀ env, starEach [a] env = (false, eval a env) :: starEach [] env := by intro _; rfl) : WE S (.Call (.Name "tuple" p) [a] [] pos) ρ Q :=
  we_t1 (D := TupD) (fun X f => call_tuple_of) (fun X f G R H v d Q QV w o q kq => by
    unfold TupD at q
    split at q
    · obtain ⟨l, vs, rfl, h1, r, _⟩ := o.list w
      exact ⟨l, vs, rfl, .inl ⟨SqL.of h1, fun p hp => newT w kq hp r q⟩⟩
    · obtain ⟨l, vs, rfl, h1, r, dt⟩ := o.tup w
      exact ⟨l, vs, rfl, .inr ⟨SqT.of h1, same w kq dt q⟩⟩
    · exact q.elim) h (by exact PyProof.Rows.boot_tuple) hm hg (by decide) (by decide) he
def LisD : PyData → (PyData → Prop) → Prop
  | .list xs, Q => Q (.list xs)
  | .tuple xs, Q => Q (.list xs)
  | _, _ => False
theorem we_toLis (h : WO S a ρ fun d => LisD d Q) (hm : S.mg "list" = none) (hg : Gb S "list" := by rfl)
    (he : ∀ env, starEach [a] env = (false, eval a env) :: starEach [] env := by intro _; rfl) : WE S (.Call (.Name "list" p) [a] [] pos) ρ Q :=
  we_t1 (D := LisD) (fun X f => call_list_of) (fun X f G R H v d Q QV w o q kq => by
    unfold LisD at q
    split at q
    · obtain ⟨l, vs, rfl, h1, r, _⟩ := o.list w
      exact ⟨l, vs, rfl, .inl (SqL.of h1), fun p hp => newL w kq hp r q⟩
    · obtain ⟨l, vs, rfl, h1, r, dt⟩ := o.tup w
      exact ⟨l, vs, rfl, .inr (SqT.of h1), fun p hp => newL w kq hp r q⟩
    · exact q.elim) h (by exact PyProof.Rows.boot_list) hm hg (by decide) (by decide) he
theorem DdAll.blsV {G : Hp} : ∀ (ns : List Bool) {vs : List V}, DdAll G vs (ns.map PyData.bool) → vs = ns.map V.bl
  | [], _, h => by cases h; rfl
  | n :: ns, _, h => by
    cases h with
    | cons h t =>
      cases h
      rw [DdAll.blsV ns t]
      rfl
def AllD : PyData → (PyData → Prop) → Prop := fun d Q => ∃ ns : List Bool, d = .list (ns.map .bool) ∧ Q (.bool (ns.all id))
def AnyD : PyData → (PyData → Prop) → Prop := fun d Q => ∃ ns : List Bool, d = .list (ns.map .bool) ∧ Q (.bool (ns.any id))
theorem we_all (h : WO S a ρ fun d => AllD d Q) (hm : S.mg "all" = none) (hg : Gb S "all" := by rfl)
    (he : ∀ env, starEach [a] env = (false, eval a env) :: starEach [] env := by intro _; rfl) : WE S (.Call (.Name "all" p) [a] [] pos) ρ Q :=
  we_b1 (D := AllD) (fun X f => cr_all f.calm) (fun X f G R H v d Q QV w o q kq => by
    obtain ⟨ns, rfl, q⟩ := q
    obtain ⟨l, vs, rfl, h1, r, _⟩ := o.list w
    have e := DdAll.blsV ns r
    subst e
    exact ⟨l, ns, rfl, SqL.of h1, same w kq (.bl _) q⟩) h (by exact boot_all) hm hg (by decide) (by decide) he
theorem we_any (h : WO S a ρ fun d => AnyD d Q) (hm : S.mg "any" = none) (hg : Gb S "any" := by rfl)
    (he : ∀ env, starEach [a] env = (false, eval a env) :: starEach [] env := by intro _; rfl) : WE S (.Call (.Name "any" p) [a] [] pos) ρ Q :=
  we_b1 (D := AnyD) (fun X f => cr_any f.calm) (fun X f G R H v d Q QV w o q kq => by
    obtain ⟨ns, rfl, q⟩ := q
    obtain ⟨l, vs, rfl, h1, r, _⟩ := o.list w
    have e := DdAll.blsV ns r
    subst e
    exact ⟨l, ns, rfl, SqL.of h1, same w kq (.bl _) q⟩) h (by exact boot_any) hm hg (by decide) (by decide) he
def ReprD : PyData → (PyData → Prop) → Prop := fun d Q => ((∃ xs, d = .list xs) ∨ (∃ xs, d = .tuple xs)) ∧ d.showable = true ∧ d.depth ≤ 60 ∧ d.shown.length ≤ sizeLine ∧ Q (.str d.shown)
theorem we_repr (h : WE S a ρ fun d => ReprD d Q) (hm : S.mg "repr" = none) (hg : Gb S "repr" := by rfl)
    (he : ∀ env, starEach [a] env = (false, eval a env) :: starEach [] env := by intro _; rfl) : WE S (.Call (.Name "repr" p) [a] [] pos) ρ Q := by
  intro X f H0 σ G R H E QV kq
  refine WE.by (pe_callB (call_repr_data f.sys f.gd f.room.units) (gb_of f hg) (by rw [f.mg]; exact hm) (by exact boot_repr) (pa_cons pe_U pa_nil (he _)) (by decide) (by decide) (he _) rfl) ?_
  refine h X f H0 σ G R H E _ fun d v G2 R2 H2 q st dd => ?_
  obtain ⟨k, q1, q2, q3, q⟩ := q
  have hv : ∃ l, v = .ref l := by
    rcases k with ⟨xs, rfl⟩ | ⟨xs, rfl⟩
    · cases dd; exact ⟨_, rfl⟩
    · cases dd; exact ⟨_, rfl⟩
  obtain ⟨l, rfl⟩ := hv
  exact ⟨l, d, rfl, Dd.mono st.wd.gh _ _ dd, q1, q2, q3, kq _ _ _ _ _ q st (.str _)⟩

/-! ### isinstance -/
def tyName : PyData → String
  | .none => "NoneType"
  | .bool _ => "bool"
  | .int _ => "int"
  | .str _ => "str"
  | .list _ => "list"
  | .tuple _ => "tuple"
  | .dict _ => "dict"
theorem Dd.ty {K : PySem.W.Frag} {G H : Hp} (e : Same G H) {v : V} {d : PyData} (h : Dd G v d) : TyX K H v (.type (tyName d)) := by
  cases h with
  | non => exact .base .non
  | bl b => exact .base (.bl b)
  | int i => exact .base (.int i)
  | str x => exact .base (.str x)
  | lst h r => exact .base (.lst (e _ _ h))
  | tup h r => exact .base (.tup (e _ _ h))
  | dct0 h => exact .base (.dK (e _ _ h))
  | dct1 h => exact .base (.dK (e _ _ h))
theorem we_isi {T : Str} {n : String} {pT : Pos} (h : WE S a ρ fun d => ∃ k, kitB (tyName d) n = some k ∧ Q (.bool k)) (hT : bootBuiltins T = some (.type n)) (hmT : S.mg T = none) (hm : S.mg "isinstance" = none)
    (hg : Gb S "isinstance" := by rfl) (hgT : Gb S T := by rfl) (hnT : T ≠ "__name__" := by decide) (hdT : (T == ("__debug__" : Str)) = false := by decide)
    (he : ∀ env, starEach [a, .Name T pT] env = (false, eval a env) :: starEach [.Name T pT] env := by intro _; rfl) : WE S (.Call (.Name "isinstance" p) [a, .Name T pT] [] pos) ρ Q := by
  intro X f H0 σ G R H E QV kq
  refine WE.by (pe_callB call_isi (gb_of f hg) (by rw [f.mg]; exact hm) (by exact boot_isinstance)
    (pa_cons pe_U (pa_cons (pe_bltn (v := .ty n) (gb_of f hgT) (by rw [f.mg]; exact hmT) hT rfl hnT hdT) pa_nil) (he _)) (by decide) (by decide) (he _) rfl) ?_
  refine h X f H0 σ G R H E _ fun d v G2 R2 H2 q st dd => ?_
  obtain ⟨k, e1, q⟩ := q
  exact ⟨v, .ty n, _, _, k, rfl, .ty n, dd.ty st.wd.gh, kit_ty e1, kq _ _ _ _ _ q st (.bl k)⟩
theorem we_isi2 {T T' : Str} {n n' : String} {pT pT' pt : Pos} {kt : Nat} (h : WE S a ρ fun d => ∃ k k', kitB (tyName d) n = some k ∧ kitB (tyName d) n' = some k' ∧ Q (.bool (k || k'))) (hT : bootBuiltins T = some (.type n)) (hT' : bootBuiltins T' = some (.type n')) (hmT : S.mg T = none) (hmT' : S.mg T' = none) (hm : S.mg "isinstance" = none)
    (hg : Gb S "isinstance" := by rfl) (hgT : Gb S T := by rfl) (hgT' : Gb S T' := by rfl) (hnT : T ≠ "__name__" := by decide) (hdT : (T == ("__debug__" : Str)) = false := by decide) (hnT' : T' ≠ "__name__" := by decide) (hdT' : (T' == ("__debug__" : Str)) = false := by decide)
    (he : ∀ env, starEach [a, .Tuple [.Name T pT, .Name T' pT'] kt pt] env = (false, eval a env) :: starEach [.Tuple [.Name T pT, .Name T' pT'] kt pt] env := by intro _; rfl) : WE S (.Call (.Name "isinstance" p) [a, .Tuple [.Name T pT, .Name T' pT'] kt pt] [] pos) ρ Q := by
  intro X f H0 σ G R H E QV kq
  refine WE.by (pe_callB call_isiT (gb_of f hg) (by rw [f.mg]; exact hm) (by exact boot_isinstance)
    (pa_cons pe_U (pa_cons (pe_tup (pa_cons (pe_bltn (v := .ty n) (gb_of f hgT) (by rw [f.mg]; exact hmT) hT rfl hnT hdT)
      (pa_cons (pe_bltn (v := .ty n') (gb_of f hgT') (by rw [f.mg]; exact hmT') hT' rfl hnT' hdT') pa_nil))) pa_nil) (he _)) (by decide) (by decide) (he _) rfl) ?_
  refine h X f H0 σ G R H E _ fun d v G2 R2 H2 q st dd => ?_
  obtain ⟨k, k', e1, e2, q⟩ := q
  refine ⟨by show 2 ≤ sizeLine; decide, fun tp hp => ?_⟩
  have s3 := Stp.new (o := .tup [.ty n, .ty n']) st.wd hp
  refine ⟨v, tp, [.ty n, .ty n'], _, _, k || k', rfl, upd_same, .cons (.ty n) (.cons (.ty n') .nil), (Dd.mono s3.gg _ _ dd).ty s3.wd.gh, kitAny_cons (kit_ty e1) (fun z => ?_) (fun z => by rw [z]; rfl), kq _ _ _ _ _ q (st.trans s3) (.bl _)⟩
  rw [z, Bool.false_or]
  refine kitAny_cons (kit_ty e2) (fun z2 => ?_) fun z2 => z2
  rw [z2]
  exact kitAny_nil
end
end Tee

/-! part G: calls of defs, what is walked, targets, comprehensions -/
namespace Tee
open PySem PySem.Spec PyProof.Rows L2

/-! ### defs by their values -/
abbrev Wp := List SV → (PyData → Prop) → Prop
def spV (K : PySem.W.Frag) (W : Wp) : Sp := fun vs H Q _ => ∃ (G R : Hp) (as : List SV) (Q0 : PyData → Prop), Wd G R H ∧ ArgsR K G R vs as ∧ W as Q0 ∧
  ∀ d v G2 R2 H2, Q0 d → Stp G R H G2 R2 H2 → Dd G2 v d → Q v H2
structure Has (P : Program) (w : World) (K : PySem.W.Frag) (mg : Str → Option Value) (base : Heap) (x : Str) (k : Nat) (W : Wp) : Prop where
  ex : ∃ (f : Addr) (fd : FuncData) (ps : List Str), mg x = some (.ref f) ∧ PySem.W.keepIn K (.ref f) = true ∧ Binds K fd ps [] ∧ Gok P w K mg base CX0 k f fd ps (spV K W)
abbrev Sta.has (S : Sta) (x : Str) (k : Nat) (W : Wp) : Prop := Has S.P S.w S.K S.mg S.base x k W
theorem Gok.mono {P : Program} {w : World} {K : PySem.W.Frag} {mg : Str → Option Value} {base : Heap} {CX : CXT} {j k : Nat} {f : Addr} {fd : FuncData} {ps : List Str} {sp : Sp} (F : Gok P w K mg base CX j f fd ps sp) (h : j ≤ k) : Gok P w K mg base CX k f fd ps sp :=
  ⟨F.len, fun B above t H ar us vs Q E hg hr => F.go B above t H ar us vs Q E hg (hr.mono h)⟩
section
variable {S : Sta} {ρ : Rho} {Q : PyData → Prop} {a b c e : Expr} {es rest : List Expr} {x : Str} {p pos : Pos}
theorem gok_fits {X : Cx} (f : Fits S X) {CX : CXT} {k : Nat} {g : Addr} {fd : FuncData} {ps : List Str} {sp : Sp} (F : Gok S.P S.w S.K S.mg S.base CX k g fd ps sp) : Gok X.prog X.w X.K X.mg X.base CX k g fd ps sp := by
  rw [f.prog, f.w, f.K, f.mg, f.base]
  exact F
theorem wg_nil {Q : List SV → Prop} (q : Q []) : WG S [] ρ Q := fun X f H0 σ G R H E => ⟨_, pa_nil, fun QV kq => kq _ _ _ _ _ q (Stp.refl E.wd) .nil⟩
theorem wg_dat {Q : List SV → Prop} (h : WE S e ρ fun d => WG S es ρ fun as => Q (.dat d :: as)) (hs : ∀ env, starEach (e :: es) env = (false, eval e env) :: starEach es env := by intro _; rfl) : WG S (e :: es) ρ Q := by
  intro X f H0 σ G R H E
  refine ⟨_, pa_cons pe_U pa_U (hs _), fun QV kq => h X f H0 σ G R H E _ fun d v G2 R2 H2 q st dd => ?_⟩
  obtain ⟨t, pt, ht⟩ := q X f H0 σ G2 R2 H2 (E.step st)
  exact fun pos pins s I => pt.run pos pins s σ H2 _ I (ht _ fun ds vs G3 R3 H3 q3 s3 dd3 => kq _ _ _ _ _ q3 (st.trans s3) (.cons (Dd.mono s3.gg _ _ dd) dd3))
/-- the reel, the script handed on -/
theorem wg_sv (i : Nat) {q : SV} {Q : List SV → Prop} (hn : ∀ o, q ≠ .obj o) (hN : S.N[i]? = some x) (hv : Vis S.sc x) (hr : ρ[i]? = some (some q)) (h : WG S es ρ fun as => Q (q :: as)) (hd : (x == ("__debug__" : Str)) = false := by decide) (hcd : (x == ("__classdict__" : Str)) = false := by decide)
    (hs : ∀ env, starEach (.Name x p :: es) env = (false, eval (.Name x p) env) :: starEach es env := by intro _; rfl) : WG S (.Name x p :: es) ρ Q := by
  intro X f H0 σ G R H E
  have z := E.slot i _ hr
  have hz : ∃ v, σ[i]? = some (some v) ∧ ArgR S.K G R v q := by
    cases hs : σ[i]? with
    | none => rw [hs] at z; cases q <;> exact z.elim
    | some o =>
      cases o with
      | none => rw [hs] at z; cases q <;> exact z.elim
      | some v =>
        rw [hs] at z
        refine ⟨v, rfl, ?_⟩
        cases q with
        | dat d => exact z
        | obj o => exact absurd rfl (hn o)
        | rel => cases v <;> exact z
        | scr ns => cases v <;> exact z
  obtain ⟨v, hs1, ha⟩ := hz
  obtain ⟨t, pt, ht⟩ := h X f H0 σ G R H E
  refine ⟨_, pa_cons (pe_var (i := i) (by rw [f.N]; exact hN) (by rw [f.sc]; exact hv) hd hcd) pt (hs _), fun QV kq => ⟨v, hs1, ht _ fun as vs G2 R2 H2 q st r => ?_⟩⟩
  exact kq _ _ _ _ _ q st (.cons (ha.step st) r)
theorem wg_rel (i : Nat) {Q : List SV → Prop} (hN : S.N[i]? = some x) (hv : Vis S.sc x) (hr : ρ[i]? = some (some .rel)) (h : WG S es ρ fun as => Q (.rel :: as)) (hd : (x == ("__debug__" : Str)) = false := by decide) (hcd : (x == ("__classdict__" : Str)) = false := by decide)
    (hs : ∀ env, starEach (.Name x p :: es) env = (false, eval (.Name x p) env) :: starEach es env := by intro _; rfl) : WG S (.Name x p :: es) ρ Q := wg_sv i (fun _ z => by cases z) hN hv hr h hd hcd hs
theorem wg_scr (i : Nat) {ns : List Int} {Q : List SV → Prop} (hN : S.N[i]? = some x) (hv : Vis S.sc x) (hr : ρ[i]? = some (some (.scr ns))) (h : WG S es ρ fun as => Q (.scr ns :: as)) (hd : (x == ("__debug__" : Str)) = false := by decide) (hcd : (x == ("__classdict__" : Str)) = false := by decide)
    (hs : ∀ env, starEach (.Name x p :: es) env = (false, eval (.Name x p) env) :: starEach es env := by intro _; rfl) : WG S (.Name x p :: es) ρ Q := wg_sv i (fun _ z => by cases z) hN hv hr h hd hcd hs
theorem we_call {k : Nat} {W : Wp} (F : S.has x k W) (hk : k ≤ S.k) (h : WG S (e :: es) ρ fun as => W as Q) (hg : Gb S x := by rfl)
    (hdb : (x == ("__debug__" : Str)) = false := by decide) (he : ∀ env, starEach (e :: es) env = (false, eval e env) :: starEach es env := by intro _; rfl)
    (hpl : ∀ env, (backTo pos (starEach es env)).any (·.1) = false := by intro _; rfl) : WE S (.Call (.Name x p) (e :: es) [] pos) ρ Q := by
  intro X f H0 σ G R H E QV kq
  obtain ⟨g, fd, ps, hm, kp, hb, ok⟩ := F.ex
  obtain ⟨t, pt, ht⟩ := h X f H0 σ G R H E
  refine WE.by (pe_callG (E := E0) f.gd (gok_fits f ok) (f.room.mono hk) (gb_of f hg) (by rw [f.mg]; exact hm) (by rw [f.K]; exact kp) (by rw [f.K]; exact hb) .nil pass0 pt hdb (he _) (hpl _)) ?_
  refine ht _ fun as vs G2 R2 H2 q st r => ?_
  rw [List.append_nil]
  show spV S.K W vs H2 QV E0
  exact ⟨G2, R2, as, Q, st.wd, r, q, fun d v G3 R3 H3 q3 s3 dd => kq _ _ _ _ _ q3 (st.trans s3) dd⟩
end

/-! ### what is walked -/
/-- J hands out ds, whatever else happens -/
def Good (J : It) (ds : List PyData) (G : Hp) : Prop := ∀ G' R' H', Same G G' → Wd G' R' H' → ∀ i,
  (i < ds.length → J.go i H' ∧ ∀ x H'', J.yld i H' x H'' → ∃ G'' d, Stp G' R' H' G'' R' H'' ∧ ds[i]? = some d ∧ Dd G'' x d) ∧ (ds.length ≤ i → J.stop i H')
def WI (S : Sta) (tg iter : Expr) (ρ : Rho) (Q : List PyData → Prop) : Prop :=
  ∀ X, Fits S X → ∀ H0 σ G R H, EnvR S.K H0 ρ σ G R H → ∃ wi, PI X tg iter wi ∧ ∀ RV : It → Hp → Prop, (∀ ds J G2 R2 H2, Q ds → Stp G R H G2 R2 H2 → Good J ds G2 → RV J H2) → wi σ H RV
section
variable {S : Sta} {ρ : Rho} {a b c e tg iter : Expr} {es rest : List Expr} {x : Str} {p pos : Pos}
theorem wi_list {Q : List PyData → Prop} (h : WE S iter ρ fun d => ∃ ds, d = .list ds ∧ Q ds) : WI S tg iter ρ Q := by
  intro X f H0 σ G R H E
  refine ⟨_, pi_list pe_U, fun RV k => h X f H0 σ G R H E _ fun d v G2 R2 H2 ⟨ds, e, q⟩ st dd => ?_⟩
  subst e
  cases dd with
  | @lst l vs _ hl r =>
    refine ⟨l, rfl, ⟨vs, SqL.of (st.wd.gh _ _ hl)⟩, k ds _ G2 R2 H2 q st fun G' R' H' sg w i => ⟨fun hi => ?_, fun hi => ⟨vs, SqL.of (w.gh _ _ (sg _ _ hl)), by rw [r.len]; exact hi⟩⟩⟩
    have hq := SqL.of (K := X.K) (w.gh _ _ (sg _ _ hl))
    obtain ⟨d, ed⟩ : ∃ d, ds[i]? = some d := ⟨_, List.getElem?_eq_getElem hi⟩
    obtain ⟨v, ev, dv⟩ := r.get ed
    refine ⟨⟨vs, v, hq, ev⟩, fun x H'' ⟨e1, e2⟩ => ?_⟩
    subst e1
    have ex : v = x := Option.some.inj (ev.symm.trans (e2 vs hq))
    subst ex
    exact ⟨G', d, Stp.refl w, ed, Dd.mono sg _ _ dv⟩
theorem wi_tup {Q : List PyData → Prop} (h : WE S iter ρ fun d => ∃ ds, d = .tuple ds ∧ Q ds) : WI S tg iter ρ Q := by
  intro X f H0 σ G R H E
  refine ⟨_, pi_tup pe_U, fun RV k => h X f H0 σ G R H E _ fun d v G2 R2 H2 ⟨ds, e, q⟩ st dd => ?_⟩
  subst e
  cases dd with
  | @tup l vs _ hl r =>
    refine ⟨l, rfl, ⟨vs, SqT.of (st.wd.gh _ _ hl)⟩, k ds _ G2 R2 H2 q st fun G' R' H' sg w i => ⟨fun hi => ?_, fun hi => ⟨vs, SqT.of (w.gh _ _ (sg _ _ hl)), by rw [r.len]; exact hi⟩⟩⟩
    have hq := SqT.of (K := X.K) (w.gh _ _ (sg _ _ hl))
    obtain ⟨d, ed⟩ : ∃ d, ds[i]? = some d := ⟨_, List.getElem?_eq_getElem hi⟩
    obtain ⟨v, ev, dv⟩ := r.get ed
    refine ⟨⟨vs, v, hq, ev⟩, fun x H'' ⟨e1, e2⟩ => ?_⟩
    subst e1
    have ex : v = x := Option.some.inj (ev.symm.trans (e2 vs hq))
    subst ex
    exact ⟨G', d, Stp.refl w, ed, Dd.mono sg _ _ dv⟩
/-- 0, 1, .. below n -/
def upTo (n : Nat) : List PyData := (List.range n).map fun i => .int ((i : Nat) : Int)
theorem upTo_len (n : Nat) : (upTo n).length = n := by unfold upTo; rw [List.length_map, List.length_range]
theorem upTo_get {n i : Nat} (h : i < n) : (upTo n)[i]? = some (.int (i : Int)) := by
  unfold upTo
  rw [List.getElem?_map, List.getElem?_range h]
  rfl
theorem wi_range {Q : List PyData → Prop} (h : WO S a ρ fun d => ∃ n : Int, d = .int n ∧ -(2 ^ 62) ≤ n ∧ n < 2 ^ 62 ∧ Q (upTo n.toNat)) (hm : S.mg "range" = none) (hg : Gb S "range" := by rfl) (hs : ∀ env, starEach [a] env = [(false, eval a env)] := by intro _; rfl) :
    WI S tg (.Call (.Name "range" p) [a] [] pos) ρ Q := by
  intro X f H0 σ G R H E
  refine ⟨_, pi_range1 (gb_of f hg) (by rw [f.mg]; exact hm) (pa_cons pe_U pa_nil (hs _)) (hs _), fun RV k => h X f H0 σ G R H E _ fun d v G2 R2 H2 ⟨n, e, h1, h2, q⟩ st o => ?_⟩
  subst e
  refine ⟨n, by rw [o.int], h1, h2, k _ _ G2 R2 H2 q st fun G' R' H' sg w i => ⟨fun hi => ?_, fun hi => ?_⟩⟩
  · rw [upTo_len] at hi
    refine ⟨hi, fun x H'' ⟨e1, e2⟩ => ?_⟩
    subst e1
    subst e2
    refine ⟨G', _, Stp.refl w, upTo_get hi, ?_⟩
    rw [Int.zero_add]
    exact .int _
  · rw [upTo_len] at hi
    exact hi

/-! ### targets -/
def tUG (X : Cx) (tg : Expr) : TG := fun v σ H Q => ∀ pins s u, Inv X pins σ H s → RelV v u → wpAny (model X.prog X.w) X.A (assign tg X.env u) (fun _ s' => ∃ σ' H', Inv X pins σ' H' s' ∧ Q σ' H') X.xe s
theorem pg_U {X : Cx} {tg : Expr} : PG X tg (tUG X tg) := ⟨fun pins s σ H v u Q I r h => h pins s u I r⟩
/-- slots that differ at most at L -/
def OffS (L : List Nat) (σ σ' : L2.St) : Prop := σ'.length = σ.length ∧ ∀ i, i ∉ L → σ'[i]? = σ[i]?
theorem wipe_get {vs : List Nat} : ∀ {σ : L2.St} {i : Nat}, (wipe σ vs)[i]? = if i ∈ vs ∧ i < σ.length then some none else σ[i]? := by
  induction vs with
  | nil => intro σ i; simp [wipe]
  | cons v vs ih =>
    intro σ i
    show ((wipe σ vs).set v none)[i]? = _
    by_cases hv : v = i
    · subst hv
      by_cases hl : v < σ.length
      · rw [List.getElem?_set_self (by rw [wipe_length]; exact hl), if_pos ⟨by simp, hl⟩]
      · rw [if_neg (fun z => hl z.2), List.getElem?_eq_none (by rw [List.length_set, wipe_length]; omega), List.getElem?_eq_none (by omega)]
    · rw [List.getElem?_set_ne hv, ih]
      by_cases hm : i ∈ vs ∧ i < σ.length
      · rw [if_pos hm, if_pos ⟨List.mem_cons_of_mem _ hm.1, hm.2⟩]
      · rw [if_neg hm, if_neg (fun z => hm ⟨(List.mem_cons.mp z.1).resolve_left (fun q => hv q.symm), z.2⟩)]
theorem OffS.wipe {L vs : List Nat} {σ σ' : L2.St} (h : OffS L σ σ') (hL : ∀ j ∈ L, j ∈ vs) : L2.wipe σ' vs = L2.wipe σ vs := by
  apply List.ext_getElem?
  intro i
  rw [wipe_get, wipe_get, h.1]
  by_cases hm : i ∈ vs ∧ i < σ.length
  · rw [if_pos hm, if_pos hm]
  · rw [if_neg hm, if_neg hm]
    by_cases hi : i ∈ L
    · have : ¬ i < σ.length := fun z => hm ⟨hL i hi, z⟩
      rw [List.getElem?_eq_none (show σ'.length ≤ i by rw [h.1]; omega), List.getElem?_eq_none (show σ.length ≤ i by omega)]
    · exact h.2 i hi
theorem wipe_wipe {σ : L2.St} {vs : List Nat} : wipe (wipe σ vs) vs = wipe σ vs := by
  apply List.ext_getElem?
  intro i
  rw [wipe_get, wipe_length]
  by_cases hm : i ∈ vs ∧ i < σ.length
  · rw [if_pos hm, wipe_get, if_pos hm]
  · rw [if_neg hm]
def WTg (S : Sta) (tg : Expr) (L : List Nat) (ρ : Rho) (d : PyData) (K : Rho → Prop) : Prop :=
  ∀ X, Fits S X → ∀ H0 σ G R H, EnvR S.K H0 ρ σ G R H → ∀ v, Dd G v d → ∀ Qσ : L2.St → Hp → Prop, (∀ ρ' σ', K ρ' → EnvR S.K H0 ρ' σ' G R H → OffS L σ σ' → Qσ σ' H) → tUG X tg v σ H Qσ
theorem offS_set {L : List Nat} {σ : L2.St} {i : Nat} {x : Option V} (h : i ∈ L) : OffS L σ (σ.set i x) := ⟨by rw [List.length_set], fun j hj => List.getElem?_set_ne (fun q => hj (by rw [← q]; exact h))⟩
theorem OffS.trans {L : List Nat} {σ σ' σ'' : L2.St} (a : OffS L σ σ') (b : OffS L σ' σ'') : OffS L σ σ'' := ⟨b.1.trans a.1, fun i hi => (b.2 i hi).trans (a.2 i hi)⟩
theorem wtg_name (i : Nat) {d : PyData} {K : Rho → Prop} (hN : S.N[i]? = some x) (hl : L2.Loc S.sc x) (hf : S.fn x = true ∨ S.sc.names.lookup x = some .local) (k : K (ρ.set i (some (.dat d)))) : WTg S (.Name x p) [i] ρ d K := by
  intro X f H0 σ G R H E v dd Qσ kq pins s u I r
  refine (pg_name (i := i) f.nd (by rw [f.N]; exact hN) (by unfold L2.Loc; rw [f.sc]; exact hl) (hf.elim (fun z => .inl (f.fn _ z)) (fun z => .inr (by rw [f.sc]; exact z)))).run pins s σ H v u Qσ I r ?_
  exact kq _ _ k (E.setD i dd) (offS_set (by simp))
theorem wtg_pair (i j : Nat) {y : Str} {py : Pos} {kt : Nat} {d1 d2 : PyData} {K : Rho → Prop} (hN : S.N[i]? = some x) (hl : L2.Loc S.sc x) (hf : S.fn x = true ∨ S.sc.names.lookup x = some .local)
    (hN' : S.N[j]? = some y) (hl' : L2.Loc S.sc y) (hf' : S.fn y = true ∨ S.sc.names.lookup y = some .local) (k : K ((ρ.set i (some (.dat d1))).set j (some (.dat d2)))) : WTg S (.Tuple [.Name x p, .Name y py] kt pos) [i, j] ρ (.tuple [d1, d2]) K := by
  intro X f H0 σ G R H E v dd Qσ kq pins s u I r
  have g1 := pg_name (X := X) (pos := p) (i := i) f.nd (by rw [f.N]; exact hN) (by unfold L2.Loc; rw [f.sc]; exact hl) (hf.elim (fun z => .inl (f.fn _ z)) (fun z => .inr (by rw [f.sc]; exact z)))
  have g2 := pg_name (X := X) (pos := py) (i := j) f.nd (by rw [f.N]; exact hN') (by unfold L2.Loc; rw [f.sc]; exact hl') (hf'.elim (fun z => .inl (f.fn _ z)) (fun z => .inr (by rw [f.sc]; exact z)))
  cases dd with
  | @tup l vs _ h q =>
    obtain ⟨v1, v2, rfl, q1, q2⟩ : ∃ v1 v2, vs = [v1, v2] ∧ Dd G v1 d1 ∧ Dd G v2 d2 := by
      cases q with
      | cons h1 t =>
        cases t with
        | cons h2 t =>
          cases t
          exact ⟨_, _, rfl, h1, h2⟩
    refine (pg_tup f.calm (pgs_cons g1 (pgs_cons g2 pgs_nil))).run pins s σ H _ u Qσ I r ⟨l, [v1, v2], rfl, SqT.of (E.wd.gh _ _ h), rfl, v1, [v2], rfl, v2, [], rfl, rfl, ?_⟩
    exact kq _ _ k ((E.setD i q1).setD j q2) ((offS_set (by simp)).trans (offS_set (by simp)))
end
end Tee

/-! part H: comprehensions, statements, defs -/
namespace Tee
open PySem PySem.Spec PyProof.Rows L2

theorem Stp.off {G R H G2 R2 H2 : Hp} (s : Stp G R H G2 R2 H2) {D : Addr} {o : HO} (h : H D = none) (hg : G2 D = none) (hr : R2 D = none) : Stp G R H G2 R2 (upd H2 D o) := by
  have nh : ∀ b u, H b = some u → b ≠ D := fun b u e => ne_of_none e h
  have ng : ∀ b u, G2 b = some u → b ≠ D := fun b u e => ne_of_none e hg
  have nr : ∀ b u, R2 b = some u → b ≠ D := fun b u e => ne_of_none e hr
  exact ⟨⟨fun b u e => by rw [upd_ne (ng b u e)]; exact s.wd.gh b u e, fun b u e => by rw [upd_ne (nr b u e)]; exact s.wd.rh b u e, s.wd.dis⟩, fun b u n e => by rw [upd_ne (nh b u e)]; exact s.keep b u n e,
    fun b u e => by rw [upd_ne (nh b u e)]; exact s.dom b u e, s.gg, s.gnew, s.rnew, s.rel⟩
/-- an object that is no part of G, R stays apart through a step -/
theorem Stp.apart {G R H G2 R2 H2 : Hp} (s : Stp G R H G2 R2 H2) {D : Addr} {o : HO} (h : H D = some o) (hg : G D = none) (hr : R D = none) : H2 D = some o ∧ G2 D = none ∧ R2 D = none := by
  refine ⟨s.keep D o hr h, ?_, ?_⟩
  · cases q : G2 D with
    | none => rfl
    | some u => have := s.gnew D u q hg; rw [h] at this; cases this
  · cases q : R2 D with
    | none => rfl
    | some u => have := s.rnew D u q hr; rw [h] at this; cases this

/-! ### comprehensions -/
def wipeR (ρ : Rho) : List Nat → Rho
  | [] => ρ
  | v :: vs => (wipeR ρ vs).set v none
theorem EnvR.wipe {K : PySem.W.Frag} {H0 : Hp} {ρ : Rho} {σ : L2.St} {G R H : Hp} (E : EnvR K H0 ρ σ G R H) : ∀ vs, EnvR K H0 (wipeR ρ vs) (L2.wipe σ vs) G R H
  | [] => E
  | v :: vs => (E.wipe vs).drop v none
abbrev Sta.blk (S : Sta) (scope : Scope) : Sta := { S with sc := relS scope S.sc, fn := fun x => scope.names.lookup x == some .cell }
theorem Fits.blk {S : Sta} {X : Cx} (f : Fits S X) (s : Shared) (H : Hp) (scope : Scope) (C : Addr) (cl : List (Str × Addr)) (fp : List Addr) : Fits (S.blk scope) (X.blk s H scope (compEnvC scope cl C X.env) fp) :=
  ⟨f.prog, f.w, f.K, f.mg, f.base, f.N, by show relS scope X.env.scope = _; rw [f.sc], fun x h => h, f.calm, f.gd, f.room, f.sys, f.nd, rfl⟩
def WTs (S : Sta) (ifs : List Expr) (ρ : Rho) (Q : Bool → Prop) : Prop :=
  match ifs with
  | [] => Q true
  | [t] => WT S t ρ Q
  | _ => False
section
variable {S : Sta} {ρ : Rho} {Q : PyData → Prop} {elt tg iter a b c e : Expr} {es rest ifs : List Expr} {x : Str} {p pos : Pos}
def tUB (X : Cx) (scope : Scope) (e : Expr) : TE := fun σ H Q => ∀ (s : Shared) (H1 : Hp) (C : Addr) (cl : List (Str × Addr)) (fp : List Addr), tU (X.blk s H1 scope (compEnvC scope cl C X.env) fp) e σ H Q
def tUTB (X : Cx) (scope : Scope) (ifs : List Expr) : TT := fun σ H Q => match ifs with
  | [] => Q true H
  | [t] => ∀ (s : Shared) (H1 : Hp) (C : Addr) (cl : List (Str × Addr)) (fp : List Addr), tUT (X.blk s H1 scope (compEnvC scope cl C X.env) fp) t σ H Q
  | _ => False
def tUGB (X : Cx) (scope : Scope) (tg : Expr) : TG := fun v σ H Q => ∀ (s : Shared) (H1 : Hp) (C : Addr) (cl : List (Str × Addr)) (fp : List Addr), tUG (X.blk s H1 scope (compEnvC scope cl C X.env) fp) tg v σ H Q
/-- the reading of a comprehension, by what is handed on when its list is done -/
theorem lc_read {scope : Scope} {own : List (Str × Nat)} {L : List Nat} {X : Cx} (f : Fits S X) (hL : ∀ j ∈ L, j ∈ own.map (·.2)) (hifs : ifs.length ≤ 1) {H0 : Hp} {σ : L2.St} {G R H : Hp} (E : EnvR S.K H0 ρ σ G R H)
    (hi : WI S tg iter ρ fun ds => ds.length ≤ 1000000 ∧ ∃ J : Nat → List PyData → Prop, J 0 [] ∧
      (∀ i d acc, ds[i]? = some d → J i acc → WTg (S.blk scope) tg L (wipeR ρ (own.map (·.2))) d fun ρ' => WTs (S.blk scope) ifs ρ' fun k =>
        (k = true → WE (S.blk scope) elt ρ' fun y => J (i + 1) (acc ++ [y])) ∧ (k = false → J (i + 1) acc)) ∧ ∀ acc, J ds.length acc → Q (.list acc)) :
    ∃ wi, PI X tg iter wi ∧ ∀ QV : VK, (∀ acc D vs G' R' H', Q (.list acc) → H D = none → Stp G R H G' R' H' → H' D = some (.lst vs) → G' D = none → R' D = none → DdAll G' vs acc → Beside ρ σ D → QV (.ref D) H') →
      tLc wi (tUGB X scope tg) (tUTB X scope ifs) (tUB X scope elt) (own.map (·.2)) σ H QV := by
  obtain ⟨wi, pi, hw⟩ := hi X f H0 σ G R H E
  refine ⟨wi, pi, fun QV k => hw _ fun ds J G2 R2 H2 q st good => ?_⟩
  obtain ⟨hz, Jv, j0, jt, je⟩ := q
  intro D hD
  have E2 := E.step st
  have g2 : G2 D = none := by
    cases z : G2 D with
    | none => rfl
    | some u => have := st.wd.gh _ _ z; rw [hD] at this; cases this
  have r2 : R2 D = none := by
    cases z : R2 D with
    | none => rfl
    | some u => have := st.wd.rh _ _ z; rw [hD] at this; cases this
  have hH : H D = none := by
    cases z : H D with
    | none => rfl
    | some u => obtain ⟨u2, y⟩ := st.dom _ _ z; rw [hD] at y; cases y
  have bes : Beside ρ σ D := E2.beside hD
  -- what holds ahead of turn i
  refine ⟨fun i m H' => m = ds.length - i ∧ i ≤ ds.length ∧ ∃ acc vs G' R', Jv i acc ∧ acc.length ≤ i ∧ Stp G2 R2 H2 G' R' H' ∧ EnvR S.K H0 ρ σ G' R' H' ∧ H' D = some (.lst vs) ∧ G' D = none ∧ R' D = none ∧ DdAll G' vs acc,
    ⟨ds.length, by omega, Nat.zero_le _, [], [], G2, R2, j0, Nat.le_refl _, (Stp.refl st.wd).off hD g2 r2, E2.off g2 r2 bes, upd_same, g2, r2, .nil⟩, ?_⟩
  rintro i m H' ⟨rfl, hi, acc, vs, G', R', hJ, hacc, s', E', hd', gd', rd', dd'⟩
  obtain ⟨gd1, gd2⟩ := good G' R' H' s'.gg E'.wd i
  by_cases hlt : i < ds.length
  · obtain ⟨hgo, hy⟩ := gd1 hlt
    refine .inr ⟨hgo, fun H'' => ∃ acc vs G' R', Jv (i + 1) acc ∧ acc.length ≤ i + 1 ∧ Stp G2 R2 H2 G' R' H'' ∧ EnvR S.K H0 ρ σ G' R' H'' ∧ H'' D = some (.lst vs) ∧ G' D = none ∧ R' D = none ∧ DdAll G' vs acc,
      fun H'' hn => ⟨ds.length - (i + 1), by omega, rfl, hlt, hn⟩, fun v H'' hv => ?_⟩
    obtain ⟨G3, d, s3, ed, dv⟩ := hy v H'' hv
    obtain ⟨hd3, gd3, rd3⟩ := s3.apart hd' gd' rd'
    have E3 := E'.step s3
    have EB := E3.wipe (own.map (·.2))
    intro s1 H1 C cl fp
    have fb := f.blk s1 H1 scope C cl fp
    refine (jt i d acc ed hJ) _ fb H0 _ G3 R' H'' EB v dv _ fun ρ' σ' hK E4 off => ⟨?_, ?_⟩
    · rw [off.wipe hL, wipe_wipe]
    · -- the test, then the element
      have go : ∀ (b : Bool) G4 R4 H4, ((b = true → WE (S.blk scope) elt ρ' fun y => Jv (i + 1) (acc ++ [y])) ∧ (b = false → Jv (i + 1) acc)) → Stp G3 R' H'' G4 R4 H4 →
          if b = true then tUB X scope elt σ' H4 fun y H5 => ∃ acc, H5 D = some (.lst acc) ∧ acc.length < sizeLine ∧
            (∃ acc' vs G' R', Jv (i + 1) acc' ∧ acc'.length ≤ i + 1 ∧ Stp G2 R2 H2 G' R' (upd H5 D (.lst (acc ++ [y]))) ∧ EnvR S.K H0 ρ σ G' R' (upd H5 D (.lst (acc ++ [y]))) ∧ (upd H5 D (.lst (acc ++ [y]))) D = some (.lst vs) ∧ G' D = none ∧ R' D = none ∧ DdAll G' vs acc')
          else ∃ acc vs G' R', Jv (i + 1) acc ∧ acc.length ≤ i + 1 ∧ Stp G2 R2 H2 G' R' H4 ∧ EnvR S.K H0 ρ σ G' R' H4 ∧ H4 D = some (.lst vs) ∧ G' D = none ∧ R' D = none ∧ DdAll G' vs acc := by
        intro b G4 R4 H4 hb s4
        obtain ⟨hd4, gd4, rd4⟩ := s4.apart hd3 gd3 rd3
        cases b with
        | true =>
          rw [if_pos rfl]
          intro s1 H1 C cl fp
          refine (hb.1 rfl) _ (f.blk s1 H1 scope C cl fp) H0 σ' G4 R4 H4 (E4.step s4) _ fun y w G5 R5 H5 hj s5 dy => ?_
          obtain ⟨hd5, gd5, rd5⟩ := s5.apart hd4 gd4 rd4
          have s35 := (s3.trans s4).trans s5
          have len1 : vs.length < sizeLine := by
            rw [dd'.len]
            exact Nat.lt_of_le_of_lt (show acc.length ≤ 1000000 by omega) (by decide)
          refine ⟨vs, hd5, len1, acc ++ [y], vs ++ [w], G5, R5, hj, by rw [List.length_append]; exact Nat.succ_le_succ hacc, (s'.trans s35).off hD gd5 rd5, ((E'.step s35)).off gd5 rd5 bes, upd_same, gd5, rd5, ?_⟩
          exact (DdAll.mono s35.gg _ _ dd').app (.cons dy .nil)
        | false =>
          rw [if_neg (by decide)]
          have s34 := s3.trans s4
          exact ⟨acc, vs, G4, R4, hb.2 rfl, by omega, s'.trans s34, E'.step s34, hd4, gd4, rd4, DdAll.mono s34.gg _ _ dd'⟩
      cases ifs with
      | nil => exact go true G3 R' H'' hK (Stp.refl E3.wd)
      | cons t r =>
        cases r with
        | nil =>
          intro s1 H1 C cl fp
          exact hK _ (f.blk s1 H1 scope C cl fp) H0 σ' G3 R' H'' E4 _ fun b G4 R4 H4 hb s4 => go b G4 R4 H4 hb s4
        | cons t2 r2 => exact absurd hifs (by simp)
  · have e : i = ds.length := by omega
    subst e
    exact .inl ⟨gd2 (Nat.le_refl _), k acc D vs G' R' H' (je acc hJ) hH (st.trans s') hd' gd' rd' dd' bes⟩
theorem lc_pe {scope : Scope} {own : List (Str × Nat)} {X : Cx} (f : Fits S X) (ok : blkC S.N S.sc scope own = true) (hifs : ifs.length ≤ 1) {wi : TI} (pi : PI X tg iter wi) (hs : ∀ env x, foldedSetIterable iter env x = pure x) :
    PE X (.ListComp elt [⟨tg, iter, ifs, 0⟩] scope pos) (tLc wi (tUGB X scope tg) (tUTB X scope ifs) (tUB X scope elt) (own.map (·.2))) := by
  refine pe_lc f.calm f.nd pi (blkOk_by (by rw [f.N, f.sc]; exact ok)) (fun s H C cl fp => ⟨fun pins s' σ H v u Q I r h => h s _ C cl fp pins s' u I r⟩) (fun s H C cl fp => ?_) (fun s H C cl fp => ⟨fun pins s' σ H Q I h => h s _ C cl fp pins s' I⟩) (hs _)
  cases ifs with
  | nil => exact pts_nil
  | cons t r =>
    cases r with
    | nil => exact pts_one ⟨fun pins s' σ H Q I h => h s _ C cl fp pins s' I⟩
    | cons t2 r2 => exact absurd hifs (by simp)
theorem we_lc {scope : Scope} (own : List (Str × Nat)) (L : List Nat)
    (hi : WI S tg iter ρ fun ds => ds.length ≤ 1000000 ∧ ∃ J : Nat → List PyData → Prop, J 0 [] ∧
      (∀ i d acc, ds[i]? = some d → J i acc → WTg (S.blk scope) tg L (wipeR ρ (own.map (·.2))) d fun ρ' => WTs (S.blk scope) ifs ρ' fun k =>
        (k = true → WE (S.blk scope) elt ρ' fun y => J (i + 1) (acc ++ [y])) ∧ (k = false → J (i + 1) acc)) ∧ ∀ acc, J ds.length acc → Q (.list acc))
    (ok : blkC S.N S.sc scope own = true := by (try dsimp only); decide +kernel) (hL : ∀ j ∈ L, j ∈ own.map (·.2) := by decide) (hifs : ifs.length ≤ 1 := by first | exact Nat.le_refl _ | exact Nat.zero_le _) (hs : ∀ env x, foldedSetIterable iter env x = pure x := by intro _ _; rfl) :
    WE S (.ListComp elt [⟨tg, iter, ifs, 0⟩] scope pos) ρ Q := by
  intro X f H0 σ G R H E QV kq
  obtain ⟨wi, pi, rd⟩ := lc_read f hL hifs E hi
  refine WE.by (lc_pe f ok hifs pi hs) (rd QV fun acc D vs G' R' H' q hD st hd gd rd' dd bes => ?_)
  -- the list stands still from now on
  have ng : ∀ b u, G' b = some u → b ≠ D := fun b u e => ne_of_none e gd
  have sm : Same G' (upd G' D (.lst vs)) := fun b u e => by rw [upd_ne (ng b u e)]; exact e
  refine kq _ _ (upd G' D (.lst vs)) R' H' q ⟨⟨fun b u e => ?_, st.wd.rh, fun b u e => ?_⟩, st.keep, st.dom, st.gg.trans sm, fun b u e n => ?_, st.rnew, st.rel⟩ (.lst upd_same (DdAll.mono sm _ _ dd))
  · by_cases z : b = D
    · subst z; rw [upd_same] at e; cases e; exact hd
    · rw [upd_ne z] at e; exact st.wd.gh b u e
  · rw [upd_ne (ne_of_none e rd')]; exact st.wd.dis b u e
  · by_cases z : b = D
    · subst z; exact hD
    · rw [upd_ne z] at e; exact st.gnew b u e n
end
end Tee

/-! part I: statements, defs -/
namespace Tee
open PySem PySem.Spec PyProof.Rows L2

inductive Out where
  | nx (ρ : Rho) | rt (d : PyData) | bk (ρ : Rho) | ct (ρ : Rho) | ro (xs : List PyData) | rn (as : List Addr) (its : List (PyData ⊕ List PyData))
structure EndsOk (K : PySem.W.Frag) (G0 R0 H0 : Hp) (R : Out → Prop) (D : Ends) : Prop where
  nx : ∀ ρ σ G Rr H, R (.nx ρ) → Stp G0 R0 H0 G Rr H → EnvR K H0 ρ σ G Rr H → D.nx σ H
  rt : ∀ d v G Rr H, R (.rt d) → Stp G0 R0 H0 G Rr H → Dd G v d → D.rt v H
  bk : ∀ ρ σ G Rr H, R (.bk ρ) → Stp G0 R0 H0 G Rr H → EnvR K H0 ρ σ G Rr H → D.bk σ H
  ct : ∀ ρ σ G Rr H, R (.ct ρ) → Stp G0 R0 H0 G Rr H → EnvR K H0 ρ σ G Rr H → D.ct σ H
  ro : ∀ xs l vs G Rr H, R (.ro xs) → Stp G0 R0 H0 G Rr H → H l = some (.lst vs) → G l = none → Rr l = none → H0 l = none → DdAll G vs xs → D.rt (.ref l) H
  rn : ∀ as its v G Rr H, R (.rn as its) → Stp G0 R0 H0 G Rr H → OwnAt G H (.nst as its) v → (∀ a ∈ as, Free H0 G Rr H a) → D.rt v H
def tU1 (X : Cx) (st : Stmt) : TS := fun D σ H => ∀ pins s, Inv X pins σ H s → wpAny (model X.prog X.w) X.A (exec st X.env) (SP X pins D) X.xe s
theorem ps_U {X : Cx} {st : Stmt} : PS X st (tU1 X st) := ⟨fun pins s σ H D I h => h pins s I⟩
def WS (S : Sta) (sts : List Stmt) (ρ : Rho) (R : Out → Prop) : Prop :=
  ∀ X, Fits S X → ∀ G0 R0 H0 σ G Rr H, Stp G0 R0 H0 G Rr H → EnvR S.K H0 ρ σ G Rr H → ∀ D : Ends, EndsOk S.K G0 R0 H0 R D → tUS X sts D σ H
def W1 (S : Sta) (st : Stmt) (ρ : Rho) (R : Out → Prop) : Prop :=
  ∀ X, Fits S X → ∀ G0 R0 H0 σ G Rr H, Stp G0 R0 H0 G Rr H → EnvR S.K H0 ρ σ G Rr H → ∀ D : Ends, EndsOk S.K G0 R0 H0 R D → tU1 X st D σ H
/-- what follows a statement -/
def thenR (S : Sta) (rest : List Stmt) (R : Out → Prop) : Out → Prop
  | .nx ρ => WS S rest ρ R
  | .rt d => R (.rt d)
  | .bk ρ => R (.bk ρ)
  | .ct ρ => R (.ct ρ)
  | .ro xs => R (.ro xs)
  | .rn as its => R (.rn as its)
section
variable {S : Sta} {ρ : Rho} {R : Out → Prop} {a b c e iter tg : Expr} {sts rest body orelse : List Stmt} {st : Stmt} {x y : Str} {p px py pos : Pos}
theorem W1.by {X : Cx} {t : TS} (ps : PS X st t) {D : Ends} {σ : L2.St} {H : Hp} (h : t D σ H) : tU1 X st D σ H := fun pins s I => ps.run pins s σ H D I h
theorem ws_nil (r : R (.nx ρ)) : WS S [] ρ R := fun X f G0 R0 H0 σ G Rr H s0 E D ok pins s I => pss_nil.run pins s σ H D I (ok.nx _ _ _ _ _ r s0 E)
theorem ws_cons (h : W1 S st ρ (thenR S rest R)) : WS S (st :: rest) ρ R := by
  intro X f G0 R0 H0 σ G Rr H s0 E D ok pins s I
  refine (pss_cons ps_U pss_U).run pins s σ H D I (h X f G0 R0 H0 σ G Rr H s0 E _ ⟨fun ρ' σ' G' R' H' r s1 E1 => ?_, ok.rt, ok.bk, ok.ct, ok.ro, ok.rn⟩)
  exact r X f G0 R0 H0 σ' G' R' H' s1 E1 D ok
theorem EnvR.stay {K : PySem.W.Frag} {H0 : Hp} {σ : L2.St} {G Rr H G2 R2 H2 : Hp} (E : EnvR K H0 ρ σ G Rr H) (s : Stp G Rr H G2 R2 H2) : EnvR K H0 ρ σ G2 R2 H2 := E.step s
theorem w1_set (i : Nat) (h : WE S e ρ fun d => R (.nx (ρ.set i (some (.dat d))))) (hN : S.N[i]? = some x) (hl : L2.Loc S.sc x) (hf : S.fn x = true ∨ S.sc.names.lookup x = some .local) (hs : ∀ env, swapsWith e (some (.Name x p)) pos.line env = pure false := by intro _; rfl) :
    W1 S (.Assign [.Name x p] e pos) ρ R := by
  intro X f G0 R0 H0 σ G Rr H s0 E D ok
  refine W1.by (ps_set (i := i) f.nd (by rw [f.N]; exact hN) (by unfold L2.Loc; rw [f.sc]; exact hl) pe_U (hs _) (hf.elim (fun z => .inl (f.fn _ z)) (fun z => .inr (by rw [f.sc]; exact z)))) ?_
  exact h X f H0 σ G Rr H E _ fun d v G2 R2 H2 q st dd => ok.nx _ _ _ _ _ q (s0.trans st) ((E.step st).setD i dd)
/-- name = [.. for ..], data -/
theorem w1_setLc (i : Nat) {elt : Expr} {ifs : List Expr} {scope : Scope} (own : List (Str × Nat)) (L : List Nat)
    (hi : WI S tg iter ρ fun ds => ds.length ≤ 1000000 ∧ ∃ J : Nat → List PyData → Prop, J 0 [] ∧
      (∀ i d acc, ds[i]? = some d → J i acc → WTg (S.blk scope) tg L (wipeR ρ (own.map (·.2))) d fun ρ' => WTs (S.blk scope) ifs ρ' fun k =>
        (k = true → WE (S.blk scope) elt ρ' fun y => J (i + 1) (acc ++ [y])) ∧ (k = false → J (i + 1) acc)) ∧ ∀ acc, J ds.length acc → R (.nx (ρ.set i (some (.dat (.list acc))))))
    (hN : S.N[i]? = some x) (hk : S.sc.kind = .function) (hl : S.sc.names.lookup x = some .local) (hln : (px.line == p.line) = true := by rfl) (hany : (scope.names.any fun (n, k) => n == x && (k == .local || k == .cell)) = false := by decide +kernel)
    (hspos : pos.line = p.line ∨ True := by exact .inr trivial)
    (ok : blkC S.N S.sc scope own = true := by (try dsimp only); decide +kernel) (hL : ∀ j ∈ L, j ∈ own.map (·.2) := by decide) (hifs : ifs.length ≤ 1 := by first | exact Nat.le_refl _ | exact Nat.zero_le _) (hs : ∀ env x, foldedSetIterable iter env x = pure x := by intro _ _; rfl) :
    W1 S (.Assign [.Name x px] (.ListComp elt [⟨tg, iter, ifs, 0⟩] scope p) pos) ρ R := by
  intro X f G0 R0 H0 σ G Rr H s0 E D okD
  obtain ⟨wi, pi, rd⟩ := lc_read (Q := fun d => R (.nx (ρ.set i (some (.dat d))))) f hL hifs E hi
  have ps : PS X (.Assign [.Name x px] (.ListComp elt [⟨tg, iter, ifs, 0⟩] scope p) pos) (tAsg (tLc wi (tUGB X scope tg) (tUTB X scope ifs) (tUB X scope elt) (own.map (·.2))) (gName i)) := by
    refine ps_setLc f.calm f.nd (by rw [f.N]; exact hN) (by rw [f.sc]; exact hl) (sw_true (by rw [f.sc]; exact hk) (by rw [f.sc]; exact hl) hln hany) pi (blkOk_by (by rw [f.N, f.sc]; exact ok)) (fun s H C cl fp => ⟨fun pins s' σ H v u Q I r h => h s _ C cl fp pins s' u I r⟩) (fun s H C cl fp => ?_) (fun s H C cl fp => ⟨fun pins s' σ H Q I h => h s _ C cl fp pins s' I⟩) (hs _)
    cases ifs with
    | nil => exact pts_nil
    | cons t r =>
      cases r with
      | nil => exact pts_one ⟨fun pins s' σ H Q I h => h s _ C cl fp pins s' I⟩
      | cons t2 r2 => exact absurd hifs (by simp)
  refine W1.by ps (rd _ fun acc D vs G' R' H' q hD st hd gd rd' dd bes => ?_)
  have ng : ∀ b u, G' b = some u → b ≠ D := fun b u e => ne_of_none e gd
  have sm : Same G' (upd G' D (.lst vs)) := fun b u e => by rw [upd_ne (ng b u e)]; exact e
  have st2 : Stp G Rr H (upd G' D (.lst vs)) R' H' := by
    refine ⟨⟨fun b u e => ?_, st.wd.rh, fun b u e => ?_⟩, st.keep, st.dom, st.gg.trans sm, fun b u e n => ?_, st.rnew, st.rel⟩
    · by_cases z : b = D
      · subst z; rw [upd_same] at e; cases e; exact hd
      · rw [upd_ne z] at e; exact st.wd.gh b u e
    · rw [upd_ne (ne_of_none e rd')]; exact st.wd.dis b u e
    · by_cases z : b = D
      · subst z; exact hD
      · rw [upd_ne z] at e; exact st.gnew b u e n
  exact okD.nx _ _ _ _ _ q (s0.trans st2) ((E.step st2).setD i (.lst upd_same (DdAll.mono sm _ _ dd)))

/-! ### new lists of the def's own -/
def WF (S : Sta) (e : Expr) (ρ : Rho) (Q : List PyData → Prop) : Prop :=
  ∀ X, Fits S X → ∀ H0 σ G R H, EnvR S.K H0 ρ σ G R H → ∀ QV : VK,
    (∀ ds vs p G2 R2 H2, Q ds → Stp G R H G2 R2 H2 → H2 p = none → DdAll G2 vs ds → QV (.ref p) (upd H2 p (.lst vs))) → tU X e σ H QV
theorem wf_list {es : List Expr} {Q : List PyData → Prop} (h : WD S es ρ fun ds => ds.length ≤ sizeLine ∧ Q ds) : WF S (.List es pos) ρ Q := by
  intro X f H0 σ G R H E QV kq
  obtain ⟨t, pt, ht⟩ := h X f H0 σ G R H E
  exact WE.by (pe_lst pt) (ht _ fun ds vs G2 R2 H2 q st dd => ⟨by rw [dd.len]; exact q.1, fun p hp => kq _ _ _ _ _ _ q.2 st hp dd⟩)
/-- xs * k -/
theorem wf_rep {Q : List PyData → Prop} (h : WO S a ρ fun da => WO S b ρ fun db => ∃ xs k, da = .list xs ∧ db = .int k ∧ -(2 ^ 63) ≤ k ∧ k < 2 ^ 63 ∧ xs.length * k.toNat ≤ sizeLine ∧ Q (List.replicate k.toNat xs).flatten) : WF S (.BinOp a .Mult b pos) ρ Q := by
  intro X f H0 σ G R H E QV kq pins s I
  refine (pe_op op_rep pe_U pe_U).run pins s σ H QV I (two f E h fun da db v u G2 R2 H2 q st o1 o2 => ?_)
  obtain ⟨xs, k, rfl, rfl, q1, q2, q3, q⟩ := q
  obtain ⟨l1, v1, e1, h1, r1, _⟩ := o1.list st.wd
  exact ⟨l1, _, v1, e1, o2.int, h1, q1, q2, by rw [r1.len]; exact q3, fun p hp => kq _ _ _ _ _ _ q st hp (r1.rep _)⟩
theorem wf_cat {Q : List PyData → Prop} (h : WO S a ρ fun da => WO S b ρ fun db => ∃ xs ys, da = .list xs ∧ db = .list ys ∧ xs.length + ys.length ≤ sizeLine ∧ Q (xs ++ ys)) : WF S (.BinOp a .Add b pos) ρ Q := by
  intro X f H0 σ G R H E QV kq pins s I
  refine (pe_op op_cat pe_U pe_U).run pins s σ H QV I (two f E h fun da db v u G2 R2 H2 q st o1 o2 => ?_)
  obtain ⟨xs, ys, rfl, rfl, q1, q⟩ := q
  obtain ⟨l1, v1, e1, h1, r1, _⟩ := o1.list st.wd
  obtain ⟨l2, v2, e2, h2, r2, _⟩ := o2.list st.wd
  exact ⟨l1, l2, v1, v2, e1, e2, h1, h2, by rw [r1.len, r2.len]; exact q1, fun p hp => kq _ _ _ _ _ _ q st hp (r1.app r2)⟩
theorem wf_toLis {Q : List PyData → Prop} (h : WO S a ρ fun d => ∃ xs, (d = .list xs ∨ d = .tuple xs) ∧ Q xs) (hm : S.mg "list" = none) (hg : Gb S "list" := by rfl)
    (he : ∀ env, starEach [a] env = (false, eval a env) :: starEach [] env := by intro _; rfl) : WF S (.Call (.Name "list" p) [a] [] pos) ρ Q := by
  intro X f H0 σ G R H E QV kq
  refine WE.by (pe_callTy call_list_of (gb_of f hg) (by rw [f.mg]; exact hm) (by exact PyProof.Rows.boot_list) (pa_cons pe_U pa_nil (he _)) (by decide) (by decide) (he _) rfl) ?_
  refine h X f H0 σ G R H E _ fun d v G2 R2 H2 q st o => ?_
  obtain ⟨xs, rfl | rfl, q⟩ := q
  · obtain ⟨l, vs, rfl, h1, r, _⟩ := o.list st.wd
    exact ⟨l, vs, rfl, .inl (SqL.of h1), fun p hp => kq _ _ _ _ _ _ q st hp r⟩
  · obtain ⟨l, vs, rfl, h1, r, dt⟩ := o.tup st.wd
    exact ⟨l, vs, rfl, .inr (SqT.of h1), fun p hp => kq _ _ _ _ _ _ q st hp r⟩
theorem WF.mono {Q Q' : List PyData → Prop} (h : WF S e ρ Q) (k : ∀ d, Q d → Q' d) : WF S e ρ Q' := fun X f H0 σ G R H E QV kq => h X f H0 σ G R H E QV fun d vs p G2 R2 H2 q => kq d vs p G2 R2 H2 (k d q)
/-- an own list at a free place, from the entry on -/
theorem Stp.free {G0 R0 H0 G Rr H : Hp} (s0 : Stp G0 R0 H0 G Rr H) {q : Addr} (hq : H q = none) : H0 q = none ∧ G q = none ∧ Rr q = none := by
  refine ⟨?_, ?_, ?_⟩
  · cases z : H0 q with
    | none => rfl
    | some u => obtain ⟨u2, y⟩ := s0.dom _ _ z; rw [hq] at y; cases y
  · cases z : G q with
    | none => rfl
    | some u => have := s0.wd.gh _ _ z; rw [hq] at this; cases this
  · cases z : Rr q with
    | none => rfl
    | some u => have := s0.wd.rh _ _ z; rw [hq] at this; cases this
theorem w1_setO (i : Nat) (h : WF S e ρ fun ds => R (.nx (ρ.set i (some (.own ds))))) (hN : S.N[i]? = some x) (hl : L2.Loc S.sc x) (hf : S.fn x = true ∨ S.sc.names.lookup x = some .local) (hs : ∀ env, swapsWith e (some (.Name x p)) pos.line env = pure false := by intro _; rfl) :
    W1 S (.Assign [.Name x p] e pos) ρ R := by
  intro X f G0 R0 H0 σ G Rr H s0 E D ok
  refine W1.by (ps_set (i := i) f.nd (by rw [f.N]; exact hN) (by unfold L2.Loc; rw [f.sc]; exact hl) pe_U (hs _) (hf.elim (fun z => .inl (f.fn _ z)) (fun z => .inr (by rw [f.sc]; exact z)))) ?_
  refine h X f H0 σ G Rr H E _ fun ds vs q G2 R2 H2 r st hq dd => ?_
  have s2 := s0.trans st
  obtain ⟨f0, fg, fr⟩ := s2.free hq
  exact ok.nx _ _ _ _ _ r (s2.off f0 fg fr) ((E.step st).setO (fun b o z => s2.dom b o z) i hq dd)
/-- a, b = e1, e2 with e2 a new list of the def's own -/
theorem w1_parO (i j : Nat) {kt k2 : Nat} {pt pt2 : Pos} (h : WE S a ρ fun d => WF S b ρ fun ds => R (.nx ((ρ.set i (some (.dat d))).set j (some (.own ds))))) (hN : S.N[i]? = some x) (hN' : S.N[j]? = some y) (hij : i ≠ j)
    (hk : S.sc.kind = .function) (hl : S.sc.names.lookup x = some .local) (hl' : S.sc.names.lookup y = some .local)
    (hw : ∀ env : Env, env.scope = S.sc → swappedStores [.Tuple [.Name x px, .Name y py] kt pt] (.Tuple [a, b] k2 pt2) env = pure (some [x, y]))
    (hs : ∀ env, swapsWithSole [.Tuple [.Name x px, .Name y py] kt pt] (.Tuple [a, b] k2 pt2) pos.line env = pure false := by intro _; rfl)
    (he : ∀ env, starEach [a, b] env = (false, eval a env) :: starEach [b] env := by intro _; rfl) (he2 : ∀ env, starEach [b] env = (false, eval b env) :: starEach [] env := by intro _; rfl) :
    W1 S (.Assign [.Tuple [.Name x px, .Name y py] kt pt] (.Tuple [a, b] k2 pt2) pos) ρ R := by
  intro X f G0 R0 H0 σ G Rr H s0 E D ok
  refine W1.by (ps_par (i := i) (j := j) f.calm f.nd (by rw [f.N]; exact hN) (by rw [f.N]; exact hN') hij (by rw [f.sc]; exact hl) (by rw [f.sc]; exact hl') (pa_cons pe_U (pa_cons pe_U pa_nil (he2 _)) (he _)) (hw _ f.sc) (hs _)) ?_
  refine h X f H0 σ G Rr H E _ fun d v G2 R2 H2 hb st dd => hb X f H0 σ G2 R2 H2 (E.step st) _ fun ds vs q G3 R3 H3 r st3 hq ddl => ?_
  have s3 := s0.trans (st.trans st3)
  obtain ⟨f0, fg, fr⟩ := s3.free hq
  refine ⟨v, .ref q, rfl, ok.nx _ _ _ _ _ r (s3.off f0 fg fr) ?_⟩
  exact ((E.step (st.trans st3)).setD i (Dd.mono st3.gg _ _ dd)).setO (fun b o z => s3.dom b o z) j hq ddl
/-- a, b = e1, e2, both data -/
theorem w1_parD (i j : Nat) {kt k2 : Nat} {pt pt2 : Pos} (h : WE S a ρ fun d => WE S b ρ fun d' => R (.nx ((ρ.set i (some (.dat d))).set j (some (.dat d'))))) (hN : S.N[i]? = some x) (hN' : S.N[j]? = some y) (hij : i ≠ j)
    (hk : S.sc.kind = .function) (hl : S.sc.names.lookup x = some .local) (hl' : S.sc.names.lookup y = some .local)
    (hw : ∀ env : Env, env.scope = S.sc → swappedStores [.Tuple [.Name x px, .Name y py] kt pt] (.Tuple [a, b] k2 pt2) env = pure (some [x, y]))
    (hs : ∀ env, swapsWithSole [.Tuple [.Name x px, .Name y py] kt pt] (.Tuple [a, b] k2 pt2) pos.line env = pure false := by intro _; rfl)
    (he : ∀ env, starEach [a, b] env = (false, eval a env) :: starEach [b] env := by intro _; rfl) (he2 : ∀ env, starEach [b] env = (false, eval b env) :: starEach [] env := by intro _; rfl) :
    W1 S (.Assign [.Tuple [.Name x px, .Name y py] kt pt] (.Tuple [a, b] k2 pt2) pos) ρ R := by
  intro X f G0 R0 H0 σ G Rr H s0 E D ok
  refine W1.by (ps_par (i := i) (j := j) f.calm f.nd (by rw [f.N]; exact hN) (by rw [f.N]; exact hN') hij (by rw [f.sc]; exact hl) (by rw [f.sc]; exact hl') (pa_cons pe_U (pa_cons pe_U pa_nil (he2 _)) (he _)) (hw _ f.sc) (hs _)) ?_
  refine h X f H0 σ G Rr H E _ fun d v G2 R2 H2 hb st dd => hb X f H0 σ G2 R2 H2 (E.step st) _ fun d' v' G3 R3 H3 r st3 dd' => ?_
  have s3 := s0.trans (st.trans st3)
  refine ⟨v, v', rfl, ok.nx _ _ _ _ _ r s3 (((E.step (st.trans st3)).setD i (Dd.mono st3.gg _ _ dd)).setD j dd')⟩
/-- an own list's place, and that it may change -/
theorem own_at {K : PySem.W.Frag} {H0 : Hp} {σ : L2.St} {G Rr H : Hp} (E : EnvR K H0 ρ σ G Rr H) {i : Nat} {xs : List PyData} (hi : ρ[i]? = some (some (.own xs))) :
    ∃ l vs, σ[i]? = some (some (.ref l)) ∧ H l = some (.lst vs) ∧ G l = none ∧ Rr l = none ∧ H0 l = none ∧ DdAll G vs xs := by
  have z := E.slot i _ hi
  cases hs : σ[i]? with
  | none => rw [hs] at z; exact z.elim
  | some o =>
    cases o with
    | none => rw [hs] at z; exact z.elim
    | some v =>
      rw [hs] at z
      cases v with
      | ref l =>
        obtain ⟨⟨vs, h1, h5⟩, fr⟩ := z
        obtain ⟨h2, h3, h4, _⟩ := fr l (by simp [foot])
        exact ⟨l, vs, rfl, h1, h2, h3, h4, h5⟩
      | _ => exact z.1.elim
/-- an object of the def's own, any kind -/
theorem obj_at {K : PySem.W.Frag} {H0 : Hp} {σ : L2.St} {G Rr H : Hp} (E : EnvR K H0 ρ σ G Rr H) {i : Nat} {o : OwnO} (hi : ρ[i]? = some (some (.obj o))) :
    ∃ v, σ[i]? = some (some v) ∧ OwnAt G H o v ∧ ∀ a ∈ foot o v, Free H0 G Rr H a := by
  have z := E.slot i _ hi
  cases hs : σ[i]? with
  | none => rw [hs] at z; exact z.elim
  | some y =>
    cases y with
    | none => rw [hs] at z; exact z.elim
    | some v => rw [hs] at z; exact ⟨v, rfl, z⟩
theorem w1_append (i : Nat) {xs : List PyData} {pa pc : Pos} (hr : ρ[i]? = some (some (.own xs))) (h : WE S e ρ fun d => xs.length < sizeLine ∧ R (.nx (ρ.set i (some (.own (xs ++ [d]))))))
    (hN : S.N[i]? = some x) (hv : Vis S.sc x) (hd : (x == ("__debug__" : Str)) = false := by decide) (hcd : (x == ("__classdict__" : Str)) = false := by decide)
    (he : ∀ env, starEach [e] env = (false, eval e env) :: starEach [] env := by intro _; rfl)
    (hfew : ∀ env, ((backTo pc (starEach [e] env)).all (fun x => !x.1) && (backToKw pc (keywordEach [] env)).all (fun x => x.1.isSome)
      && decide ([e].length + ([] : List Keyword).length + (if ([] : List Keyword).isEmpty then 0 else 1) < 30)) = true := by intro _; rfl)
    (hbase : ∀ env, attributeBase (.Name x px) "append" env (eval (.Name x px) env) = eval (.Name x px) env := by intro _; rfl) (hline : (pa.endLine == pc.line) = true := by rfl)
    (hsw : ∀ env, swapsWith (.Call (.Attribute (.Name x px) "append" pa) [e] [] pc) none pos.line env = pure false := by intro _; rfl) :
    W1 S (.Expr (.Call (.Attribute (.Name x px) "append" pa) [e] [] pc) pos) ρ R := by
  intro X f G0 R0 H0 σ G Rr H s0 E D ok
  refine W1.by (ps_expr (pe_bm PySem.F.plainAttrs_list PySem.F.slot_list_append PySem.F.type_list_append mt_append (pe_var (i := i) (by rw [f.N]; exact hN) (by rw [f.sc]; exact hv) hd hcd) (pa_cons pe_U pa_nil (he _)) (hbase _) (hfew _) hline (he _) (by rfl)) (hsw _)) ?_
  obtain ⟨l, vs, e1, h1, h2, h3, h4, h5⟩ := own_at E hr
  refine ⟨.ref l, e1, .inl ⟨rfl, _, SqL.of h1⟩, h X f H0 σ G Rr H E _ fun d v G2 R2 H2 q st dd => ?_⟩
  obtain ⟨k1, k2, k3⟩ := st.apart h1 h2 h3
  refine ⟨l, vs, v, rfl, rfl, k1, by rw [h5.len]; exact q.1, ok.nx _ _ _ _ _ q.2 ((s0.trans st).off h4 k2 k3) ((E.step st).chg hr e1 ((DdAll.mono st.gg _ _ h5).app (.cons dd .nil)))⟩
/-- xs[k] = e -/
theorem w1_store (i : Nat) {xs : List PyData} {ps' : Pos} (hr : ρ[i]? = some (some (.own xs))) (h : WE S e ρ fun d => WO S b ρ fun dk => ∃ k j, dk = .int k ∧ ixN xs.length k = some j ∧ R (.nx (ρ.set i (some (.own (xs.set j d))))))
    (hN : S.N[i]? = some x) (hv : Vis S.sc x) (hd : (x == ("__debug__" : Str)) = false := by decide) (hcd : (x == ("__classdict__" : Str)) = false := by decide)
    (ha : ∀ env v, assign (.Subscript (.Name x px) b ps') env v = (do
      let ov ← holding [v] (eval (.Name x px) env)
      let iv ← holding [v, ov] (eval b env)
      standAt ps'
      holding [v, ov, iv] (setItem ov iv v)
      release [v, ov, iv] []) := by intro _ _; rfl)
    (hs : ∀ env, swapsWithSole [.Subscript (.Name x px) b ps'] e pos.line env = pure false := by intro _; rfl) (hw : ∀ env, swappedStores [.Subscript (.Name x px) b ps'] e env = pure none := by intro _; rfl)
    (h1' : ∀ env, (assignEach [.Subscript (.Name x px) b ps'] env).map (·.2) = [assign (.Subscript (.Name x px) b ps') env] := by intro _; rfl) :
    W1 S (.Assign [.Subscript (.Name x px) b ps'] e pos) ρ R := by
  intro X f G0 R0 H0 σ G Rr H s0 E D ok
  refine W1.by (ps_asg pe_U (pg_sub (pe_var (i := i) (by rw [f.N]; exact hN) (by rw [f.sc]; exact hv) hd hcd) pe_U set_list (ha _)) (hs _) (hw _) (h1' _)) ?_
  refine h X f H0 σ G Rr H E _ fun d v G2 R2 H2 hb st dd => ?_
  have E2 := E.step st
  obtain ⟨l, vs, e1, _, _, _, _, _⟩ := own_at E2 hr
  refine ⟨.ref l, e1, hb X f H0 σ G2 R2 H2 E2 _ fun dk u G3 R3 H3 q st3 o => ?_⟩
  obtain ⟨k, j, rfl, hj, q⟩ := q
  have E3 := E2.step st3
  obtain ⟨l', vs', e1', h1, h2, h3, h4, h5⟩ := own_at E3 hr
  rw [e1] at e1'
  cases e1'
  have s3 := (s0.trans st).trans st3
  exact ⟨l, vs', k, j, rfl, o.int, h1, by rw [h5.len]; exact hj, ok.nx _ _ _ _ _ q (s3.off h4 h2 h3) (E3.chg hr e1 (h5.setD (Dd.mono st3.gg _ _ dd) j))⟩
/-- a list of the def's own stands still from here on -/
theorem ws_freeze (i : Nat) {xs : List PyData} (hr : ρ[i]? = some (some (.own xs))) (h : WS S sts (ρ.set i (some (.dat (.list xs)))) R) : WS S sts ρ R := by
  intro X f G0 R0 H0 σ G Rr H s0 E D ok
  obtain ⟨l, vs, e1, _⟩ := own_at E hr
  obtain ⟨G2, E2, _, sm, nw⟩ := E.freeze hr e1
  refine h X f G0 R0 H0 σ G2 Rr H ⟨E2.wd, s0.keep, s0.dom, s0.gg.trans sm, fun b o z n => ?_, s0.rnew, s0.rel⟩ E2 D ok
  cases q : G b with
  | some u => exact s0.gnew b u q n
  | none => exact nw b o z q
theorem w1_if (h : WT S c ρ fun k => (k = true → WS S body ρ R) ∧ (k = false → WS S orelse ρ R)) : W1 S (.If c body orelse pos) ρ R := by
  intro X f G0 R0 H0 σ G Rr H s0 E D ok
  refine W1.by (ps_if pt_U pss_U pss_U) (h X f H0 σ G Rr H E _ fun k G2 R2 H2 q st => ?_)
  cases k with
  | true =>
    rw [if_pos rfl]
    exact q.1 rfl X f G0 R0 H0 σ G2 R2 H2 (s0.trans st) (E.step st) D ok
  | false =>
    rw [if_neg (by decide)]
    exact q.2 rfl X f G0 R0 H0 σ G2 R2 H2 (s0.trans st) (E.step st) D ok
theorem w1_ret (h : WE S e ρ fun d => R (.rt d)) : W1 S (.Return (some e) pos) ρ R := by
  intro X f G0 R0 H0 σ G Rr H s0 E D ok
  exact W1.by (ps_ret pe_U) (h X f H0 σ G Rr H E _ fun d v G2 R2 H2 q st dd => ok.rt _ _ _ _ _ q (s0.trans st) dd)
theorem w1_retN (h : R (.rt .none)) : W1 S (.Return none pos) ρ R := by
  intro X f G0 R0 H0 σ G Rr H s0 E D ok
  exact W1.by ps_retN (ok.rt _ _ _ _ _ h s0 .non)
theorem w1_expr (h : WE S e ρ fun _ => R (.nx ρ)) (hs : ∀ env, swapsWith e none pos.line env = pure false := by intro _; rfl) : W1 S (.Expr e pos) ρ R := by
  intro X f G0 R0 H0 σ G Rr H s0 E D ok
  exact W1.by (ps_expr pe_U (hs _)) (h X f H0 σ G Rr H E _ fun d v G2 R2 H2 q st dd => ok.nx _ _ _ _ _ q (s0.trans st) (E.step st))
/-- return xs, a list of the def's own -/
theorem w1_retO (i : Nat) {xs : List PyData} (hr : ρ[i]? = some (some (.own xs))) (h : R (.ro xs)) (hN : S.N[i]? = some x) (hv : Vis S.sc x) (hd : (x == ("__debug__" : Str)) = false := by decide) (hcd : (x == ("__classdict__" : Str)) = false := by decide) : W1 S (.Return (some (.Name x p)) pos) ρ R := by
  intro X f G0 R0 H0 σ G Rr H s0 E D ok
  obtain ⟨l, vs, e1, h1, h2, h3, h4, h5⟩ := own_at E hr
  exact W1.by (ps_ret (pe_var (i := i) (by rw [f.N]; exact hN) (by rw [f.sc]; exact hv) hd hcd)) ⟨.ref l, e1, ok.ro _ _ _ _ _ _ h s0 h1 h2 h3 h4 h5⟩
/-- x += e, two ints -/
theorem w1_augAdd (i : Nat) {n : Int} (hr : ρ[i]? = some (some (.dat (.int n)))) (h : WE S e ρ fun d => ∃ m, d = .int m ∧ R (.nx (ρ.set i (some (.dat (.int (n + m))))))) (hN : S.N[i]? = some x) (hl : L2.Loc S.sc x) (hf : S.fn x = true ∨ S.sc.names.lookup x = some .local) :
    W1 S (.AugAssign (.Name x p) .Add e pos) ρ R := by
  intro X f G0 R0 H0 σ G Rr H s0 E D ok
  refine W1.by (ps_aug (i := i) f.nd (by rw [f.N]; exact hN) (by unfold L2.Loc; rw [f.sc]; exact hl) pe_U ip_add (hf.elim (fun z => .inl (f.fn _ z)) (fun z => .inr (by rw [f.sc]; exact z)))) ?_
  have z := E.slot i _ hr
  cases hs : σ[i]? with
  | none => rw [hs] at z; exact z.elim
  | some o =>
    cases o with
    | none => rw [hs] at z; exact z.elim
    | some v =>
      rw [hs] at z
      have z : Dd G v (.int n) := z
      cases z
      refine ⟨_, hs, h X f H0 σ G Rr H E _ fun d v G2 R2 H2 q st dd => ?_⟩
      obtain ⟨m, rfl, q⟩ := q
      cases dd
      exact ⟨n, m, rfl, rfl, ok.nx _ _ _ _ _ q (s0.trans st) ((E.step st).setD i (.int _))⟩
/-- a later G as the entry's -/
theorem Stp.lift {G Rr H G2 R2 H2 : Hp} (s : Stp G Rr H G2 R2 H2) : Stp G2 Rr H G2 R2 H2 := ⟨s.wd, s.keep, s.dom, Same.refl _, fun b o e n => absurd (e.symm.trans n) (by simp), s.rnew, s.rel⟩
theorem Stp.comp {G Rr H G2 R2 H2 G3 R3 H3 : Hp} (s : Stp G Rr H G2 R2 H2) (t : Stp G2 Rr H G3 R3 H3) : Stp G Rr H G3 R3 H3 :=
  ⟨t.wd, t.keep, t.dom, s.gg.trans t.gg, fun b o e n => by
    cases q : G2 b with
    | some u => exact s.gnew b u q n
    | none => exact t.gnew b o e q, t.rnew, t.rel⟩
/-- for .. in ..: J holds ahead of each turn -/
theorem w1_for (L : List Nat) (hi : WI S tg iter ρ fun ds => ∃ J : Nat → Rho → Prop, J 0 ρ ∧
      (∀ i d ρ', ds[i]? = some d → J i ρ' → WTg S tg L ρ' d fun ρ2 => WS S body ρ2 fun o => match o with
        | .nx ρ3 => J (i + 1) ρ3
        | .ct ρ3 => J (i + 1) ρ3
        | .bk ρ3 => R (.nx ρ3)
        | .rt d => R (.rt d)
        | .ro xs => R (.ro xs)
        | .rn as its => R (.rn as its)) ∧ ∀ ρ', J ds.length ρ' → R (.nx ρ'))
    (hs : ∀ env x, foldedSetIterable iter env x = pure x := by intro _ _; rfl) : W1 S (.For tg iter body [] pos) ρ R := by
  intro X f G0 R0 H0 σ G Rr H s0 E D ok
  obtain ⟨wi, pi, hw⟩ := hi X f H0 σ G Rr H E
  refine W1.by (ps_for (by rw [f.xe]; exact PassesOwn.never) f.calm pi pg_U pss_U (hs _)) (hw _ fun ds It0 G2 R2 H2 q st good => ?_)
  obtain ⟨J, j0, jt, je⟩ := q
  refine ⟨fun i m σ' H' => m = ds.length - i ∧ i ≤ ds.length ∧ ∃ ρ' G' R', J i ρ' ∧ Same G2 G' ∧ Stp G0 R0 H0 G' R' H' ∧ EnvR S.K H0 ρ' σ' G' R' H',
    ⟨ds.length, by omega, Nat.zero_le _, ρ, G2, R2, j0, Same.refl _, s0.trans st, E.step st⟩, ?_⟩
  rintro i m σ' H' ⟨rfl, hi', ρ', G', R', hJ, sg, s', E'⟩
  obtain ⟨gd1, gd2⟩ := good G' R' H' sg E'.wd i
  by_cases hlt : i < ds.length
  · obtain ⟨hgo, hy⟩ := gd1 hlt
    refine .inr ⟨hgo, fun σ'' H'' => ∃ ρ' G' R', J (i + 1) ρ' ∧ Same G2 G' ∧ Stp G0 R0 H0 G' R' H'' ∧ EnvR S.K H0 ρ' σ'' G' R' H'', fun σ'' H'' hn => ⟨ds.length - (i + 1), by omega, rfl, hlt, hn⟩, fun v H'' hv => ?_⟩
    obtain ⟨G3, d, s3, ed, dv⟩ := hy v H'' hv
    have sg3 : Same G2 G3 := sg.trans s3.gg
    refine (jt i d ρ' ed hJ) X f H0 σ' G3 R' H'' (E'.step s3) v dv _ fun ρ2 σ2 hK E4 off => ?_
    -- the turn, over the heap that stands still so far
    have s03 := s'.trans s3
    refine hK X f G3 R0 H0 σ2 G3 R' H'' s03.lift E4 _ ⟨fun ρ3 σ3 G5 R5 H5 hj s5 E5 => ?_, fun d v G5 R5 H5 hr s5 dd => ok.rt _ _ _ _ _ hr (s03.comp s5) dd, fun ρ3 σ3 G5 R5 H5 hj s5 E5 => ok.nx _ _ _ _ _ hj (s03.comp s5) E5, fun ρ3 σ3 G5 R5 H5 hj s5 E5 => ?_, fun xs l vs G5 R5 H5 hr s5 => ok.ro xs l vs G5 R5 H5 hr (s03.comp s5), fun as its v G5 R5 H5 hr s5 => ok.rn as its v G5 R5 H5 hr (s03.comp s5)⟩
    · exact ⟨ρ3, G5, R5, hj, sg3.trans s5.gg, s03.comp s5, E5⟩
    · exact ⟨ρ3, G5, R5, hj, sg3.trans s5.gg, s03.comp s5, E5⟩
  · have e : i = ds.length := by omega
    subst e
    exact .inl ⟨gd2 (Nat.le_refl _), ok.nx _ _ _ _ _ (je _ hJ) s' E'⟩
end
end Tee

/-! part J: a def by its body; the law -/
namespace Tee
open PySem PySem.Spec PyProof.Rows L2

def startR (N : List Str) (as : List SV) : Rho := as.map some ++ List.replicate (N.length - as.length) none
theorem ArgR.slot {K : PySem.W.Frag} {H0 G R H : Hp} {v : V} {a : SV} (h : ArgR K G R v a) : SlotR K H0 G R H (some a) (some (some v)) := by
  cases a with
  | dat d => exact h
  | obj o => cases v <;> exact h.elim
  | rel => cases v <;> exact h
  | scr ns => cases v <;> exact h
theorem ArgsR.len {K : PySem.W.Frag} {G R : Hp} {vs : List V} {as : List SV} (h : ArgsR K G R vs as) : vs.length = as.length := Paired.length h
theorem ArgsR.get {K : PySem.W.Frag} {G R : Hp} : ∀ {vs : List V} {as : List SV} {i : Nat} {a : SV}, ArgsR K G R vs as → as[i]? = some a → ∃ v, vs[i]? = some v ∧ ArgR K G R v a
  | _, _, _, _, .nil, e => by simp at e
  | _, _, 0, _, .cons h _, e => by simp at e; subst e; exact ⟨_, rfl, h⟩
  | _, _, i + 1, a, .cons _ t, e => ArgsR.get (i := i) (a := a) t (by simpa using e)
theorem env_start {K : PySem.W.Frag} {N : List Str} {vs : List V} {as : List SV} {G R H : Hp} (w : Wd G R H) (r : ArgsR K G R vs as) : EnvR K H (startR N as) (L2.start N vs) G R H := by
  have hl := r.len
  have get : ∀ (i : Nat) (q : Option SV), (startR N as)[i]? = some q → (∃ a, as[i]? = some a ∧ q = some a) ∨ (as.length ≤ i ∧ q = none) := fun i q e => by
    unfold startR at e
    by_cases hi : i < as.length
    · rw [List.getElem?_append_left (by rw [List.length_map]; exact hi), List.getElem?_map] at e
      cases z : as[i]? with
      | none => rw [z] at e; cases e
      | some a => rw [z] at e; cases e; exact .inl ⟨a, rfl, rfl⟩
    · rw [List.getElem?_append_right (by rw [List.length_map]; omega), List.getElem?_replicate] at e
      split at e
      · cases e; exact .inr ⟨by omega, rfl⟩
      · cases e
  refine ⟨w, by unfold startR L2.start; simp [hl], fun i q e => ?_, fun i j o o' v v' c h1 h2 _ _ _ _ => ?_⟩
  · rcases get i q e with ⟨a, ea, rfl⟩ | ⟨_, rfl⟩
    · obtain ⟨v, ev, ra⟩ := r.get ea
      have es : (L2.start N vs)[i]? = some (some v) := by
        unfold L2.start
        rw [List.getElem?_append_left (by rw [List.length_map]; exact (List.getElem?_eq_some_iff.mp ev).1), List.getElem?_map, ev]
        rfl
      rw [es]
      exact ra.slot
    · trivial
  · rcases get i _ h1 with ⟨a, ea, q⟩ | ⟨_, q⟩
    · cases q
      obtain ⟨v, _, ra⟩ := r.get ea
      cases v <;> exact ra.elim
    · cases q
/-- what a def's end hands back -/
def endR (Q : PyData → Prop) : Out → Prop
  | .rt d => Q d
  | .nx _ => Q .none
  | .bk _ => False
  | .ct _ => False
  | .ro xs => Q (.list xs)
  | .rn _ its => Q (.list (its.map itD))
/-- a list that is no part of anything becomes data -/
theorem Stp.lay {G0 R0 H0 G R H : Hp} (s : Stp G0 R0 H0 G R H) {l : Addr} {vs : List V} (h1 : H l = some (.lst vs)) (h2 : G l = none) (h3 : R l = none) (h4 : H0 l = none) : Stp G0 R0 H0 (upd G l (.lst vs)) R H := by
  have ng : ∀ b u, G b = some u → b ≠ l := fun b u e => ne_of_none e h2
  refine ⟨⟨fun b u e => ?_, s.wd.rh, fun b u e => ?_⟩, s.keep, s.dom, fun b u e => by rw [upd_ne (ng b u (s.gg b u e))]; exact s.gg b u e, fun b u e n => ?_, s.rnew, s.rel⟩
  · by_cases q : b = l
    · subst q; rw [upd_same] at e; cases e; exact h1
    · rw [upd_ne q] at e; exact s.wd.gh b u e
  · rw [upd_ne (ne_of_none e h3)]; exact s.wd.dis b u e
  · by_cases q : b = l
    · subst q; exact h4
    · rw [upd_ne q] at e; exact s.gnew b u e n
theorem joinH_same {G H : Hp} {fp : List Addr} (h : ∀ a ∈ fp, G a = none) : Same G (joinH G H fp) := fun b u e => by rw [joinH_out (fun q => by rw [h b q] at e; cases e)]; exact e
theorem Stp.layO {G0 R0 H0 G R H : Hp} (s : Stp G0 R0 H0 G R H) {o : OwnO} {v : V} (fr : ∀ a ∈ foot o v, Free H0 G R H a) : Stp G0 R0 H0 (joinH G H (foot o v)) R H := by
  refine ⟨⟨fun b u e => ?_, s.wd.rh, fun b u e => ?_⟩, s.keep, s.dom, s.gg.trans (joinH_same fun a ha => (fr a ha).1), fun b u e n => ?_, s.rnew, s.rel⟩
  · by_cases q : b ∈ foot o v
    · rw [joinH_in q] at e; exact e
    · rw [joinH_out q] at e; exact s.wd.gh b u e
  · rw [joinH_out (fun q => by rw [(fr b q).2.1] at e; cases e)]; exact s.wd.dis b u e
  · by_cases q : b ∈ foot o v
    · exact (fr b q).2.2.1
    · rw [joinH_out q] at e; exact s.gnew b u e n
theorem OwnAt.foot_nst {G H : Hp} {as : List Addr} {its : List (PyData ⊕ List PyData)} {v : V} (h : OwnAt G H (.nst as its) v) : foot (.nst as its) v = as := by cases v <;> first | rfl | exact h.elim
theorem OwnAt.free_nst {G H : Hp} {as : List Addr} {its : List (PyData ⊕ List PyData)} {v : V} (h : OwnAt G H (.nst as its) v) {p : Addr → Prop} (fr : ∀ a ∈ as, p a) : ∀ a ∈ foot (.nst as its) v, p a := fun a ha => fr a (by rw [h.foot_nst] at ha; exact ha)
theorem Dd.lay {G : Hp} {l : Addr} {vs : List V} {xs : List PyData} (h2 : G l = none) (h : DdAll G vs xs) : Dd (upd G l (.lst vs)) (.ref l) (.list xs) :=
  .lst upd_same (DdAll.mono (fun b u e => by rw [upd_ne (ne_of_none e h2)]; exact e) _ _ h)
section
variable {P : Program} {w : World} {K : PySem.W.Frag} {mg : Str → Option Value} {base : Heap}
theorem gok_fun {x qual : Str} {st : Stmt} {f : Addr} {fd : FuncData} {N ps : List Str} {k : Nat} (W : Wp) (F : Fun K x qual st f fd) (Sc : FnScope N ps (defScope st)) (sys : SysAt base)
    (hlen : ∀ as Q, W as Q → as.length = ps.length) (hb : ∀ as Q, W as Q → WS ⟨P, w, K, mg, base, N, defScope st, fun _ => true, k⟩ (defBody st) (startR N as) (endR Q)) : Gok P w K mg base CX0 (k + 1) f fd ps (spV K W) := by
  obtain ⟨oc, od, kV, doc, pm, an, cdv, ct, osl, rfl, lk, hcd⟩ := F.ex
  refine g_of lk hcd Sc (fun vs H Q E h => ?_) fun B above t H vs Q E hg hr h => ?_
  · obtain ⟨G, R, as, Q0, wd, r, hW, _⟩ := h
    rw [r.len]
    exact hlen as Q0 hW
  · obtain ⟨G, R, as, Q0, wd, r, hW, k0⟩ := h
    let X : Cx := (cxOf CX0 P w K mg base N qual (defScope st) f cdv B above t H E).nox
    have ft : Fits ⟨P, w, K, mg, base, N, defScope st, fun _ => true, k⟩ X := ⟨rfl, rfl, rfl, rfl, rfl, rfl, rfl, fun _ h => h, rfl, hg, hr, sys, Sc.nd, rfl⟩
    refine ⟨tUS X (defBody st), (pss_U (X := X)).nox, hb as Q0 hW X ft G R H (L2.start N vs) G R H (Stp.refl wd) (env_start wd r) _ ⟨fun ρ σ G2 R2 H2 q s _ => k0 _ _ _ _ _ q s .non, fun d v G2 R2 H2 q s dd => k0 _ _ _ _ _ q s dd, fun _ _ _ _ _ q _ _ => q.elim, fun _ _ _ _ _ q _ _ => q.elim, fun xs l vs G2 R2 H2 q s h1 h2 h3 h4 h5 => k0 _ _ _ _ _ q (s.lay h1 h2 h3 h4) (Dd.lay h2 h5), fun as its v G2 R2 H2 q s h fr => k0 _ _ _ _ _ q (s.layO (o := .nst as its) (v := v) (h.free_nst fr)) (OwnAt.dd (o := .nst as its) (joinH_same fun a ha => (h.free_nst fr a ha).1) rfl (fun a ha => joinH_in ha) h)⟩⟩
theorem has_fun {x qual : Str} {st : Stmt} {f : Addr} {fd : FuncData} {N ps : List Str} {k : Nat} (W : Wp) (F : Fun K x qual st f fd) (hm : mg x = some (.ref f)) (b : Binds K fd ps []) (Sc : FnScope N ps (defScope st)) (sys : SysAt base)
    (hlen : ∀ as Q, W as Q → as.length = ps.length) (hb : ∀ as Q, W as Q → WS ⟨P, w, K, mg, base, N, defScope st, fun _ => true, k⟩ (defBody st) (startR N as) (endR Q)) : Has P w K mg base x (k + 1) W :=
  ⟨f, fd, ps, hm, F.kp, b, gok_fun W F Sc sys hlen hb⟩
end
/-- the law: True for every script -/
def wLaw : Wp := fun as Q => ∃ ns : List Int, as = [.scr ns] ∧ ns.length ≤ 63 ∧ Q (.bool true)
theorem law_sp {K : PySem.W.Frag} {H : Hp} {a : Addr} {ns : List Int} (hl : ns.length ≤ 63) (hO : Only H) (h0 : SqL K H a (ns.map V.int)) : spV K wLaw [.ref a] H (fun v _ => v = .bl true) fun _ _ _ => False :=
  have h : ScrL K H a (ns.map V.int) := by
    rcases h0 with (z | ⟨o, z⟩) | z
    · rcases hO a with y | ⟨o, xs, y⟩
      · rw [z] at y; cases y
      · rw [z] at y; cases y
    · exact .inl ⟨o, z⟩
    · exact .inr (.inr z)
  ⟨H, fun _ => none, [.scr ns], fun d => d = .bool true, ⟨Same.refl H, fun b o e => (nomatch e), fun b o e => (nomatch e)⟩, .cons h .nil, ⟨ns, rfl, hl, rfl⟩, fun d v G2 R2 H2 e _ dd => by
    subst e
    cases dd
    rfl⟩
end Tee

/-! part K: comprehensions whose items are known functions -/
namespace Tee
open PySem PySem.Spec PyProof.Rows L2
theorem map_turn {α β : Type} {f : α → β} {ds : List α} {i : Nat} {d : α} (h : ds[i]? = some d) : (ds.take i).map f ++ [f d] = (ds.take (i + 1)).map f := by
  rw [List.take_add_one, h, List.map_append]
  rfl
theorem filter_turn {α β : Type} {f : α → β} {p : α → Bool} {ds : List α} {i : Nat} {d : α} (h : ds[i]? = some d) :
    ((ds.take (i + 1)).filter p).map f = if p d = true then ((ds.take i).filter p).map f ++ [f d] else ((ds.take i).filter p).map f := by
  rw [List.take_add_one, h, List.filter_append, List.map_append]
  by_cases hp : p d = true
  · rw [if_pos hp]; simp [hp]
  · rw [if_neg hp]; simp [hp]
/-- a statement whose ways meet -/
def midR (M : Rho → Prop) (R : Out → Prop) : Out → Prop
  | .nx ρ => M ρ
  | .rt d => R (.rt d)
  | .bk ρ => R (.bk ρ)
  | .ct ρ => R (.ct ρ)
  | .ro xs => R (.ro xs)
  | .rn as its => R (.rn as its)
theorem W1.mono {S : Sta} {st : Stmt} {ρ : Rho} {R R' : Out → Prop} (h : W1 S st ρ R) (k : ∀ o, R o → R' o) : W1 S st ρ R' := fun X f G0 R0 H0 σ G Rr H s0 E D ok =>
  h X f G0 R0 H0 σ G Rr H s0 E D ⟨fun ρ σ G Rr H r => ok.nx ρ σ G Rr H (k _ r), fun d v G Rr H r => ok.rt d v G Rr H (k _ r), fun ρ σ G Rr H r => ok.bk ρ σ G Rr H (k _ r), fun ρ σ G Rr H r => ok.ct ρ σ G Rr H (k _ r), fun xs l vs G Rr H r => ok.ro xs l vs G Rr H (k _ r), fun as its v G Rr H r => ok.rn as its v G Rr H (k _ r)⟩
theorem ws_cut {S : Sta} {st : Stmt} {rest : List Stmt} {ρ : Rho} {R : Out → Prop} (M : Rho → Prop) (h : W1 S st ρ (midR M R)) (k : ∀ ρ', M ρ' → WS S rest ρ' R) : WS S (st :: rest) ρ R :=
  ws_cons (h.mono fun o q => match o, q with
    | .nx ρ', q => k ρ' q
    | .rt _, q => q
    | .bk _, q => q
    | .ct _, q => q
    | .ro _, q => q
    | .rn _ _, q => q)
section
variable {S : Sta} {ρ : Rho} {Q : PyData → Prop} {elt tg iter t : Expr} {p pos : Pos}
theorem WTg.mono {L : List Nat} {d : PyData} {K K' : Rho → Prop} (h : WTg S tg L ρ d K) (k : ∀ r, K r → K' r) : WTg S tg L ρ d K' := fun X f H0 σ G R H E v dd Qσ kq => h X f H0 σ G R H E v dd Qσ fun ρ' σ' q => kq ρ' σ' (k _ q)
theorem WI.mono {Q Q' : List PyData → Prop} (h : WI S tg iter ρ Q) (k : ∀ r, Q r → Q' r) : WI S tg iter ρ Q' := fun X f H0 σ G R H E => by
  obtain ⟨wi, pi, hw⟩ := h X f H0 σ G R H E
  exact ⟨wi, pi, fun RV kq => hw RV fun ds J G2 R2 H2 q => kq ds J G2 R2 H2 (k _ q)⟩
theorem we_lcM {scope : Scope} (own : List (Str × Nat)) (L : List Nat) (f : PyData → PyData)
    (hi : WI S tg iter ρ fun ds => ds.length ≤ 1000000 ∧ (∀ d ∈ ds, WTg (S.blk scope) tg L (wipeR ρ (own.map (·.2))) d fun ρ' => WE (S.blk scope) elt ρ' fun y => y = f d) ∧ Q (.list (ds.map f)))
    (ok : blkC S.N S.sc scope own = true := by (try dsimp only); decide +kernel) (hL : ∀ j ∈ L, j ∈ own.map (·.2) := by decide) (hs : ∀ env x, foldedSetIterable iter env x = pure x := by intro _ _; rfl) :
    WE S (.ListComp elt [⟨tg, iter, [], 0⟩] scope pos) ρ Q := by
  refine we_lc own L (hi.mono fun ds ⟨hz, ht, q⟩ => ⟨hz, fun i acc => acc = (ds.take i).map f, rfl, fun i d acc hd hJ => (ht d (List.mem_of_getElem? hd)).mono fun ρ' he => ?_, fun acc hJ => ?_⟩) ok hL (Nat.zero_le _) hs
  · refine ⟨fun _ => he.mono fun y ey => ?_, fun z => by cases z⟩
    rw [ey, hJ, map_turn hd]
  · rw [hJ, List.take_length]
    exact q
theorem we_lcF {scope : Scope} (own : List (Str × Nat)) (L : List Nat) (p : PyData → Bool) (f : PyData → PyData)
    (hi : WI S tg iter ρ fun ds => ds.length ≤ 1000000 ∧ (∀ d ∈ ds, WTg (S.blk scope) tg L (wipeR ρ (own.map (·.2))) d fun ρ' => WT (S.blk scope) t ρ' fun k => k = p d ∧ (k = true → WE (S.blk scope) elt ρ' fun y => y = f d)) ∧ Q (.list ((ds.filter p).map f)))
    (ok : blkC S.N S.sc scope own = true := by (try dsimp only); decide +kernel) (hL : ∀ j ∈ L, j ∈ own.map (·.2) := by decide) (hs : ∀ env x, foldedSetIterable iter env x = pure x := by intro _ _; rfl) :
    WE S (.ListComp elt [⟨tg, iter, [t], 0⟩] scope pos) ρ Q := by
  refine we_lc own L (hi.mono fun ds ⟨hz, ht, q⟩ => ⟨hz, fun i acc => acc = ((ds.take i).filter p).map f, rfl, fun i d acc hd hJ => (ht d (List.mem_of_getElem? hd)).mono fun ρ' he => he.mono fun k hk => ?_, fun acc hJ => ?_⟩) ok hL (Nat.le_refl _) hs
  · refine ⟨fun z => (hk.2 z).mono fun y ey => ?_, fun z => ?_⟩
    · show _ = _
      rw [filter_turn hd, ← hk.1, if_pos z, ey, hJ]
    · show _ = _
      rw [filter_turn hd, ← hk.1, if_neg (by rw [z]; decide), hJ]
  · rw [hJ, List.take_length]
    exact q
end
end Tee

/-! part L: the reel -/
namespace Tee
open PySem PySem.Spec PyProof.Rows L2
def wDraw : Wp := fun as Q => ∃ m : Int, as = [.rel, .dat (.int m)] ∧ 0 < m ∧ m < 2 ^ 8000 ∧ ∀ v : Int, 0 ≤ v → v < m → Q (.int v)
theorem atI_of {α : Type} {xs : List α} {z : Int} {j : Nat} {v : α} (e : z = (j : Int)) (h : xs[j]? = some v) : atI xs z = some v := by
  rw [e]
  exact atI_nat h
theorem lt8000 {m : Int} (h : m < 10 ^ 40) : m < 2 ^ 8000 := Int.lt_trans h (by decide +kernel)
theorem reel_ne {R : Hp} {g e r : Addr} {c z : V} {ns : List Int} (h : R r = some (.lst [.ref g, .ref e, c, z])) {b : Addr} (hb : R b = some (.lst (ns.map V.int))) : b ≠ r := by
  intro q
  subst q
  rw [h] at hb
  cases ns with
  | nil => cases hb
  | cons n ns => cases hb
/-- the reel's list is changed, a new list may have come -/
theorem reel_step {G R H H1 : Hp} (w : Wd G R H) {r g e : Addr} {gs es : List Int} {c z : Int} (hr : R r = some (.lst [.ref g, .ref e, .int c, .int z])) (sm : Same H H1)
    {g' : Addr} {gs' : List Int} {c' z' : Int} (hg : (g' = g ∧ gs' = gs ∧ R g = some (.lst (gs.map V.int))) ∨ (H g' = none ∧ H1 g' = some (.lst (gs'.map V.int)))) (he : R e = some (.lst (es.map V.int)))
    (h1 : ∀ x ∈ gs', 0 ≤ x) (h2 : gs'.length ≤ 63) (h3 : 0 < es.length) (h4 : es.length ≤ 64) (h5 : ∀ x ∈ es, 0 ≤ x ∧ x < 1000003) (h6 : 0 ≤ c') (h7 : 0 ≤ z') (h8 : z' < 2 ^ 140) :
    ∃ R', Stp G R H G R' (upd H1 r (.lst [.ref g', .ref e, .int c', .int z'])) := by
  have hH : H r = some _ := w.rh _ _ hr
  have gr : G r = none := w.dis _ _ hr
  have er : e ≠ r := reel_ne hr he
  have g'r : g' ≠ r := by
    rcases hg with ⟨q, _, q2⟩ | ⟨q, _⟩
    · rw [q]; exact reel_ne hr q2
    · intro z; rw [z, hH] at q; cases q
  have rg' : ∀ b o, R b = some o → b = g' → o = .lst (gs'.map V.int) := fun b o q1 q2 => by
    subst q2
    rcases hg with ⟨q, q3, q2⟩ | ⟨q, _⟩
    · rw [q3]; rw [q, q2] at q1; cases q1; rfl
    · have := w.rh _ _ q1; rw [q] at this; cases this
  have gg' : ∀ b o, G b = some o → b ≠ g' := fun b o q1 q2 => by
    subst q2
    rcases hg with ⟨q, _, q2⟩ | ⟨q, _⟩
    · have := w.dis _ _ q2; rw [← q, q1] at this; cases this
    · have := w.gh _ _ q1; rw [q] at this; cases this
  have h1g' : H1 g' = some (.lst (gs'.map V.int)) := by
    rcases hg with ⟨q, q3, q2⟩ | ⟨_, q⟩
    · rw [q, q3]; exact sm _ _ (w.rh _ _ q2)
    · exact q
  let R' : Hp := upd (upd R g' (.lst (gs'.map V.int))) r (.lst [.ref g', .ref e, .int c', .int z'])
  have R'r : R' r = some (.lst [.ref g', .ref e, .int c', .int z']) := upd_same
  have R'g : R' g' = some (.lst (gs'.map V.int)) := by
    show upd (upd R g' _) r _ g' = _
    rw [upd_ne g'r, upd_same]
  have R'o : ∀ b, b ≠ r → b ≠ g' → R' b = R b := fun b q1 q2 => by
    show upd (upd R g' _) r _ b = _
    rw [upd_ne q1, upd_ne q2]
  have R'k : ∀ b o, R b = some o → b ≠ r → R' b = some o := fun b o q1 q2 => by
    by_cases q : b = g'
    · rw [rg' b o q1 q, q]; exact R'g
    · rw [R'o b q2 q]; exact q1
  have R'e : R' e = some (.lst (es.map V.int)) := R'k _ _ he er
  refine ⟨R', ⟨fun b o q => ?_, fun b o q => ?_, fun b o q => ?_⟩, fun b o n q => ?_, fun b o q => ?_, Same.refl G, fun b o q n => absurd (q.symm.trans n) (by simp), fun b o q n => ?_, fun r2 h => ?_⟩
  · rw [upd_ne (ne_of_none q gr)]; exact sm _ _ (w.gh _ _ q)
  · by_cases y : b = r
    · subst y; rw [R'r] at q; cases q; exact upd_same
    · rw [upd_ne y]
      by_cases y2 : b = g'
      · subst y2; rw [R'g] at q; cases q; exact h1g'
      · rw [R'o b y y2] at q; exact sm _ _ (w.rh _ _ q)
  · by_cases y : b = r
    · subst y; exact gr
    · by_cases y2 : b = g'
      · cases q2 : G b with
        | none => rfl
        | some u => exact absurd y2 (gg' _ _ q2)
      · rw [R'o b y y2] at q; exact w.dis _ _ q
  · rw [upd_ne (fun y => by rw [y, hr] at n; cases n)]; exact sm _ _ q
  · by_cases y : b = r
    · subst y; exact ⟨_, upd_same⟩
    · exact ⟨o, by rw [upd_ne y]; exact sm _ _ q⟩
  · by_cases y : b = r
    · subst y; rw [hr] at n; cases n
    · by_cases y2 : b = g'
      · rcases hg with ⟨q1, _, q2⟩ | ⟨q1, _⟩
        · rw [y2, q1, q2] at n; cases n
        · rw [y2]; exact q1
      · rw [R'o b y y2, n] at q; cases q
  · by_cases y : r2 = r
    · rw [y]
      exact ⟨g', e, gs', es, c', z', R'r, R'g, R'e, h1, h2, h3, h4, h5, h6, h7, h8⟩
    · obtain ⟨g2, e2, gs2, es2, c2, z2, k1, k2, k3, k⟩ := h
      exact ⟨g2, e2, gs2, es2, c2, z2, R'k _ _ k1 y, R'k _ _ k2 (reel_ne hr k2), R'k _ _ k3 (reel_ne hr k3), k⟩
theorem lay_ints : ∀ ns : List Int, PyData.canLayAll0 (ns.map PyData.int) = true
  | [] => rfl
  | n :: ns => by
    show (PyData.canLay0 (.int n) && PyData.canLayAll0 (ns.map PyData.int)) = true
    rw [lay_ints ns]
    rfl
theorem depth_ints : ∀ ns : List Int, PyData.depthAll (ns.map PyData.int) ≤ 1
  | [] => by simp [PyData.depthAll]
  | n :: ns => by
    have := depth_ints ns
    simp only [List.map_cons, PyData.depthAll, PyData.depth]
    omega
theorem shaped_ints (ns : List Int) : SeqAt.shaped (.list (ns.map PyData.int)) = true := by
  unfold SeqAt.shaped
  have h := depth_ints ns
  have h2 : (PyData.list (ns.map PyData.int)).depth ≤ 64 := by simp only [PyData.depth]; omega
  have h3 : (PyData.list (ns.map PyData.int)).canLay0 = true := by simp only [PyData.canLay0, lay_ints]
  rw [h3, decide_eq_true h2]
  rfl
theorem dp_ints {K : PySem.W.Frag} {H : Hp} : ∀ ns : List Int, DpAll K H (ns.map V.int) (ns.map PyData.int)
  | [] => .nil
  | n :: ns => .cons (.int n) (dp_ints ns)
theorem log_lt {m : Int} {n : Nat} (h0 : 0 ≤ m) (h : m < 2 ^ n) (hn : 0 < n) : m.natAbs.log2 < n := by
  have h1 : m.natAbs < 2 ^ n := by
    have e : ((m.natAbs : Nat) : Int) = m := Int.natAbs_of_nonneg h0
    have : ((m.natAbs : Nat) : Int) < ((2 ^ n : Nat) : Int) := by rw [e]; simpa using h
    exact Int.ofNat_lt.mp this
  exact PySem.Flt.log2_lt_of hn h1
end Tee

/-! part M: the script, the reel's making -/
namespace Tee
open PySem PySem.Spec PyProof.Rows L2
theorem cut_head (xs : List V) (n : Nat) : cutV xs none (some (n : Int)) = xs.take n := by
  unfold cutV
  rw [HT.sIx_none, HT.sIx_nat, List.drop_zero, Nat.sub_zero]
  by_cases h : n ≤ xs.length
  · rw [Nat.min_eq_left h]
  · rw [Nat.min_eq_right (by omega), List.take_of_length_le (Nat.le_refl _), List.take_of_length_le (by omega)]
section
variable {S : Sta} {ρ : Rho} {Q : PyData → Prop} {R : Out → Prop} {x y : Str} {p p2 p3 p4 px pos : Pos}
theorem we_sliceScr (i : Nat) {ns : List Int} {n : Nat} {k : Nat} (hN : S.N[i]? = some x) (hv : Vis S.sc x) (hr : ρ[i]? = some (some (.scr ns))) (q : Q (.list ((ns.take n).map .int))) (hd : (x == ("__debug__" : Str)) = false := by decide) (hcd : (x == ("__classdict__" : Str)) = false := by decide) :
    WE S (.Subscript (.Name x p) (.Slice none (some (.Constant (.int (n : Int)) k p3)) none p2) pos) ρ Q := by
  intro X f H0 σ G R H E QV kq
  have z := E.slot i _ hr
  cases hs : σ[i]? with
  | none => rw [hs] at z; exact z.elim
  | some o =>
    cases o with
    | none => rw [hs] at z; exact z.elim
    | some v =>
      rw [hs] at z
      cases v with
      | ref a =>
        have z : ScrL S.K G a (ns.map V.int) := z
        have z2 : SqL X.K H a (ns.map V.int) := by rw [f.K]; exact E.wd.gh.seq z.seq
        refine WE.by (pe_slice sl_list (pe_var (i := i) (by rw [f.N]; exact hN) (by rw [f.sc]; exact hv) hd hcd) po_none (po_some pe_int)) ⟨.ref a, hs, (n : Int), rfl, a, _, rfl, z2, fun p hp => ?_⟩
        refine newL E.wd kq hp ?_ q
        rw [cut_head, ← List.map_take]
        exact DdAll.ints _
      | _ => exact z.elim
/-- len(script) -/
theorem we_lenScr (i : Nat) {ns : List Int} (hN : S.N[i]? = some x) (hv : Vis S.sc x) (hr : ρ[i]? = some (some (.scr ns))) (q : Q (.int (ns.length : Int))) (hm : S.mg "len" = none) (hg : Gb S "len" := by rfl) (hd : (x == ("__debug__" : Str)) = false := by decide) (hcd : (x == ("__classdict__" : Str)) = false := by decide) :
    WE S (.Call (.Name "len" p) [.Name x p2] [] pos) ρ Q := by
  intro X f H0 σ G R H E QV kq
  have z := E.slot i _ hr
  cases hs : σ[i]? with
  | none => rw [hs] at z; exact z.elim
  | some o =>
    cases o with
    | none => rw [hs] at z; exact z.elim
    | some v =>
      rw [hs] at z
      cases v with
      | ref a =>
        have z : ScrL S.K G a (ns.map V.int) := z
        have z2 : SqL X.K H a (ns.map V.int) := by rw [f.K]; exact E.wd.gh.seq z.seq
        refine WE.by (pe_callB call_len_seq (gb_of f hg) (by rw [f.mg]; exact hm) (by exact PySem.boot_len) (pa_cons (pe_var (i := i) (by rw [f.N]; exact hN) (by rw [f.sc]; exact hv) hd hcd) pa_nil) (by decide) (by decide) rfl rfl) ⟨.ref a, hs, a, _, rfl, .inl z2, ?_⟩
        rw [List.length_map]
        exact same E.wd kq (.int _) q
      | _ => exact z.elim
def wReel : Wp := fun as Q => ∃ ns : List Int, as = [.scr ns] ∧ ns.length ≤ 63 ∧ ∀ (gs es : List Int) (z : Int), (∀ x ∈ gs, 0 ≤ x) → gs.length ≤ 63 → 0 < es.length → es.length ≤ 64 → (∀ x ∈ es, 0 ≤ x ∧ x < 1000003) → 0 ≤ z → z < 2 ^ 140 →
  Q (.list [.list (gs.map .int), .list (es.map .int), .int 0, .int z])
/-- a name gets the reel -/
theorem EnvR.setR {K : PySem.W.Frag} {H0 : Hp} {σ : L2.St} {G R H : Hp} (E : EnvR K H0 ρ σ G R H) (i : Nat) {r : Addr} (h : ReelAt R r) : EnvR K H0 (ρ.set i (some .rel)) (σ.set i (some (.ref r))) G R H :=
  E.setS i (fun _ z => by cases z) h
theorem DdAll.four {G : Hp} {vs : List V} {a b c d : PyData} (h : DdAll G vs [a, b, c, d]) : ∃ x y z u, vs = [x, y, z, u] ∧ Dd G x a ∧ Dd G y b ∧ Dd G z c ∧ Dd G u d := by
  cases h with
  | cons h1 t =>
    cases t with
    | cons h2 t =>
      cases t with
      | cons h3 t =>
        cases t with
        | cons h4 t =>
          cases t
          exact ⟨_, _, _, _, rfl, h1, h2, h3, h4⟩
theorem Dd.lints {G : Hp} {v : V} {ns : List Int} (h : Dd G v (.list (ns.map .int))) : ∃ l, v = .ref l ∧ G l = some (.lst (ns.map V.int)) := by
  cases h with
  | @lst l vs _ h r =>
    have e := DdAll.intsV ns r
    subst e
    exact ⟨l, rfl, h⟩
/-- reel = _law_reel(script) -/
theorem w1_reel (i j : Nat) {ns : List Int} {fx : Str} {k : Nat} (F : S.has fx k wReel) (hk : k ≤ S.k) (hl : ns.length ≤ 63) (hN : S.N[i]? = some x) (hv : Vis S.sc x) (hr : ρ[i]? = some (some (.scr ns))) (q : R (.nx (ρ.set j (some .rel))))
    (hN' : S.N[j]? = some y) (hl' : L2.Loc S.sc y) (hf : S.fn y = true ∨ S.sc.names.lookup y = some .local) (hg : Gb S fx := by rfl) (hd : (x == ("__debug__" : Str)) = false := by decide) (hcd : (x == ("__classdict__" : Str)) = false := by decide) (hdb : (fx == ("__debug__" : Str)) = false := by decide)
    (hs : ∀ env, swapsWith (.Call (.Name fx p2) [.Name x p3] [] p4) (some (.Name y px)) pos.line env = pure false := by intro _; rfl) :
    W1 S (.Assign [.Name y px] (.Call (.Name fx p2) [.Name x p3] [] p4) pos) ρ R := by
  intro X f G0 R0 H0 σ G Rr H s0 E D ok
  obtain ⟨g, fd, ps, hm, kp, hb, okg⟩ := F.ex
  refine W1.by (ps_set (i := j) f.nd (by rw [f.N]; exact hN') (by unfold L2.Loc; rw [f.sc]; exact hl') (pe_callG (E := E0) f.gd (gok_fits f okg) (f.room.mono hk) (gb_of f hg) (by rw [f.mg]; exact hm) (by rw [f.K]; exact kp) (by rw [f.K]; exact hb) .nil pass0 (pa_cons (pe_var (i := i) (by rw [f.N]; exact hN) (by rw [f.sc]; exact hv) hd hcd) pa_nil) hdb rfl rfl) (hs _) (hf.elim (fun z => .inl (f.fn _ z)) (fun z => .inr (by rw [f.sc]; exact z)))) ?_
  have z := E.slot i _ hr
  cases hs1 : σ[i]? with
  | none => rw [hs1] at z; exact z.elim
  | some o =>
    cases o with
    | none => rw [hs1] at z; exact z.elim
    | some v =>
      rw [hs1] at z
      cases v with
      | ref a =>
        have z : ScrL S.K G a (ns.map V.int) := z
        refine ⟨.ref a, hs1, ?_⟩
        -- the callee is shown the script alone
        let G1 : Hp := fun b => if b = a then (match G b with | some (.frz o u) => some (.frz o u) | _ => none) else none
        by_cases hfrz : ScrL S.K G1 a (ns.map V.int)
        · have sub : Same G1 G := fun b o e => by
            by_cases hb : b = a
            · subst hb
              show G b = some o
              have e' : (match G b with | some (.frz o u) => some (HO.frz o u) | _ => none) = some o := by
                have : G1 b = (match G b with | some (.frz o u) => some (HO.frz o u) | _ => none) := if_pos rfl
                rw [this] at e
                exact e
              cases hG : G b with
              | none => rw [hG] at e'; cases e'
              | some q => rw [hG] at e'; cases q <;> first | exact e' | cases e'
            · have : G1 b = none := if_neg hb
              rw [this] at e
              cases e
          have wd1 : Wd G1 (fun _ => none) H := ⟨sub.trans E.wd.gh, fun b o e => (nomatch e), fun b o e => (nomatch e)⟩
          refine ⟨G1, fun _ => none, [.scr ns], fun d => ∃ (gs es : List Int) (z : Int), d = .list [.list (gs.map .int), .list (es.map .int), .int 0, .int z] ∧ (∀ x ∈ gs, 0 ≤ x) ∧ gs.length ≤ 63 ∧ 0 < es.length ∧ es.length ≤ 64 ∧ (∀ x ∈ es, 0 ≤ x ∧ x < 1000003) ∧ 0 ≤ z ∧ z < 2 ^ 140,
            wd1, .cons hfrz .nil, ⟨ns, rfl, hl, fun gs es z a1 a2 a3 a4 a5 a6 a7 => ⟨gs, es, z, rfl, a1, a2, a3, a4, a5, a6, a7⟩⟩, fun d v G2 R2 H2 hd st dd => ?_⟩
          obtain ⟨gs, es, z, rfl, a1, a2, a3, a4, a5, a6, a7⟩ := hd
          cases dd with
          | @lst r vs _ hr2 hvs =>
            obtain ⟨v1, v2, v3, v4, rfl, d1, d2, d3, d4⟩ := hvs.four
            obtain ⟨lg, rfl, hlg⟩ := d1.lints
            obtain ⟨le, rfl, hle⟩ := d2.lints
            cases d3
            cases d4
            -- new, all three
            have nw : ∀ b xs, G2 b = some (.lst xs) → H b = none := fun b xs hb2 => by
              cases hb1 : G1 b with
              | none => exact st.gnew b _ hb2 hb1
              | some o =>
                have e2 := st.gg b o hb1
                rw [hb2] at e2
                cases e2
                have e3 := hb1
                by_cases hba : b = a
                · subst hba
                  have : G1 b = (match G b with | some (.frz o u) => some (HO.frz o u) | _ => none) := if_pos rfl
                  rw [this] at e3
                  cases hG : G b with
                  | none => rw [hG] at e3; cases e3
                  | some q => rw [hG] at e3; cases q <;> cases e3
                · have : G1 b = none := if_neg hba
                  rw [this] at e3
                  cases e3
            have nr := nw _ _ hr2
            have ng := nw _ _ hlg
            have ne := nw _ _ hle
            have keep : Same H H2 := fun b o e => st.keep b o rfl e
            let R3 : Hp := fun b => if b = r ∨ b = lg ∨ b = le then G2 b else Rr b
            have r3n : ∀ b, (b = r ∨ b = lg ∨ b = le) → R3 b = G2 b := fun b hb => if_pos hb
            have r3o : ∀ b, ¬ (b = r ∨ b = lg ∨ b = le) → R3 b = Rr b := fun b hb => if_neg hb
            have hfresh : ∀ b, (b = r ∨ b = lg ∨ b = le) → H b = none := fun b hb => by rcases hb with y | y | y <;> rw [y] <;> assumption
            have rk : Same Rr R3 := fun b o e => by
              have : ¬ (b = r ∨ b = lg ∨ b = le) := fun hb => by have := E.wd.rh b o e; rw [hfresh b hb] at this; cases this
              rw [r3o b this]
              exact e
            have st3 : Stp G Rr H G R3 H2 := by
              refine ⟨⟨E.wd.gh.trans keep, fun b o e => ?_, fun b o e => ?_⟩, fun b o _ e => keep b o e, fun b o e => ⟨o, keep b o e⟩, Same.refl G, fun b o e n => absurd (e.symm.trans n) (by simp), fun b o e n => ?_, fun r0 hr0 => ?_⟩
              · by_cases hb : b = r ∨ b = lg ∨ b = le
                · rw [r3n b hb] at e; exact st.wd.gh b o e
                · rw [r3o b hb] at e; exact keep b o (E.wd.rh b o e)
              · by_cases hb : b = r ∨ b = lg ∨ b = le
                · cases q : G b with
                  | none => rfl
                  | some u => have := E.wd.gh b u q; rw [hfresh b hb] at this; cases this
                · rw [r3o b hb] at e; exact E.wd.dis b o e
              · by_cases hb : b = r ∨ b = lg ∨ b = le
                · exact hfresh b hb
                · rw [r3o b hb, n] at e; cases e
              · obtain ⟨g', e', gs', es', c', z', k1, k2, k3, k⟩ := hr0
                exact ⟨g', e', gs', es', c', z', rk _ _ k1, rk _ _ k2, rk _ _ k3, k⟩
            refine ok.nx _ _ _ _ _ q (s0.trans st3) ((E.step st3).setR j ⟨lg, le, gs, es, 0, z, ?_, ?_, ?_, a1, a2, a3, a4, a5, Int.le_refl _, a6, a7⟩)
            · rw [r3n r (.inl rfl)]; exact hr2
            · rw [r3n lg (.inr (.inl rfl))]; exact hlg
            · rw [r3n le (.inr (.inr rfl))]; exact hle
        · exact absurd (by
            rcases z with ⟨o, h⟩ | h
            · refine .inl ⟨o, ?_⟩
              show (if a = a then (match G a with | some (.frz o u) => some (HO.frz o u) | _ => none) else none) = _
              rw [if_pos rfl, h]
            · exact .inr h) hfrz
      | _ => exact z.elim
end
end Tee

/-! part N: how long a text of data is -/
namespace Tee
open PySem PySem.Spec PyProof.Rows L2
mutual
/-- ints below 10 ^ 40 -/
def okD : PyData → Bool
  | .none | .bool _ | .str _ => true
  | .int i => decide (i.natAbs < 10 ^ 40)
  | .list xs | .tuple xs => okAll xs
  | .dict kvs => okKv kvs
def okAll : List PyData → Bool
  | [] => true
  | x :: xs => okD x && okAll xs
def okKv : List (PyData × PyData) → Bool
  | [] => true
  | (k, v) :: r => okD k && okD v && okKv r
end
mutual
def siz : PyData → Nat
  | .none | .bool _ => 5
  | .int _ => 41
  | .str x => (reprText x).length
  | .list xs | .tuple xs => sizAll xs + 3
  | .dict kvs => sizKv kvs + 2
def sizAll : List PyData → Nat
  | [] => 0
  | x :: xs => siz x + 2 + sizAll xs
def sizKv : List (PyData × PyData) → Nat
  | [] => 0
  | (k, v) :: r => siz k + siz v + 4 + sizKv r
end
theorem textFrom_le : ∀ (ts : List Str) (k : Nat) (acc : Str), (textFrom k acc ts).length ≤ acc.length + piled ts
  | [], _, _ => Nat.le_add_right _ _
  | t :: ts, k, acc => by
    have h := textFrom_le ts (k + 1) (acc ++ (if k > 0 then ", " else "" : String) ++ t)
    have e : (acc ++ (if k > 0 then ", " else "" : String) ++ t).length ≤ acc.length + 2 + t.length := by
      rw [strLen_append, strLen_append]
      have : (Str.ofString (if k > 0 then ", " else "" : String)).length ≤ 2 := by split <;> decide
      omega
    show (textFrom (k + 1) _ ts).length ≤ _
    rw [piled_cons]
    omega
theorem listText_le (ts : List Str) : (listText ts).length ≤ piled ts + 2 := by
  unfold listText
  rw [strLen_append]
  have h := textFrom_le ts 0 "["
  have e1 : (Str.ofString "[").length = 1 := rfl
  have e2 : (Str.ofString "]").length = 1 := rfl
  omega
theorem join_le (ts : List Str) : (Str.join ", " ts).length ≤ piled ts := by
  by_cases h : ts = []
  · subst h; exact Nat.zero_le _
  · have := join_length_add ts h; omega
theorem tupleText_le (ts : List Str) : (tupleText ts).length ≤ piled ts + 3 := by
  unfold tupleText
  rw [strLen_append, strLen_append]
  have h := join_le ts
  have e1 : (Str.ofString "(").length = 1 := rfl
  have e2 : (Str.ofString (if ts.length == 1 then ",)" else ")" : String)).length ≤ 2 := by split <;> decide
  omega
theorem dictText_le (ts : List Str) : (dictText ts).length ≤ piled ts + 2 := by
  unfold dictText
  rw [strLen_append, strLen_append]
  have h := join_le ts
  have e1 : (Str.ofString "{").length = 1 := rfl
  have e2 : (Str.ofString "}").length = 1 := rfl
  omega
theorem int_ok {i : Int} (h : i.natAbs < 10 ^ 40) : (Str.ofString (toString i)).length ≤ 41 ∧ i.natAbs.log2 < 1920 := by
  refine ⟨by rw [PySem.ofString_length]; exact int_text_length_le10 (by decide) h, ?_⟩
  have h2 : i.natAbs < 2 ^ 140 := Nat.lt_of_lt_of_le h (by decide)
  exact Nat.lt_of_lt_of_le (PySem.Flt.log2_lt_of (by decide) h2) (by decide)
mutual
theorem shown_le : ∀ d : PyData, okD d = true → d.shown.length ≤ siz d ∧ d.showable = true
  | .none, _ => ⟨by show (Str.ofString "None").length ≤ 5; decide, rfl⟩
  | .bool b, _ => ⟨by cases b <;> (simp only [PyData.shown, siz]; decide), rfl⟩
  | .int i, h => by
    have h1 : i.natAbs < 10 ^ 40 := by simpa [okD] using h
    obtain ⟨a, b⟩ := int_ok h1
    exact ⟨by simp only [PyData.shown, siz]; exact a, by simp only [PyData.showable]; exact decide_eq_true b⟩
  | .str x, _ => ⟨by simp only [PyData.shown, siz]; exact Nat.le_refl _, rfl⟩
  | .list xs, h => by
    obtain ⟨a, b⟩ := shownAll_le xs (by simpa [okD] using h)
    have := listText_le (PyData.shownAll xs)
    exact ⟨by simp only [PyData.shown, siz]; omega, by simpa only [PyData.showable] using b⟩
  | .tuple xs, h => by
    obtain ⟨a, b⟩ := shownAll_le xs (by simpa [okD] using h)
    have := tupleText_le (PyData.shownAll xs)
    exact ⟨by simp only [PyData.shown, siz]; omega, by simpa only [PyData.showable] using b⟩
  | .dict kvs, h => by
    obtain ⟨a, b⟩ := shownKv_le kvs (by simpa [okD] using h)
    have := dictText_le (PyData.shownKv kvs)
    exact ⟨by simp only [PyData.shown, siz]; omega, by simpa only [PyData.showable] using b⟩
theorem shownAll_le : ∀ xs : List PyData, okAll xs = true → piled (PyData.shownAll xs) ≤ sizAll xs ∧ PyData.showableAll xs = true
  | [], _ => ⟨Nat.le_refl _, rfl⟩
  | x :: xs, h => by
    have h' : okD x = true ∧ okAll xs = true := by simpa [okAll] using h
    obtain ⟨a, b⟩ := shown_le x h'.1
    obtain ⟨c, d⟩ := shownAll_le xs h'.2
    refine ⟨by simp only [PyData.shownAll, sizAll, piled_cons]; omega, by simp only [PyData.showableAll, b, d, Bool.and_self]⟩
theorem shownKv_le : ∀ xs : List (PyData × PyData), okKv xs = true → piled (PyData.shownKv xs) ≤ sizKv xs ∧ PyData.showableKv xs = true
  | [], _ => ⟨Nat.le_refl _, rfl⟩
  | (k, v) :: xs, h => by
    have h' : (okD k = true ∧ okD v = true) ∧ okKv xs = true := by simpa [okKv] using h
    obtain ⟨a, b⟩ := shown_le k h'.1.1
    obtain ⟨a2, b2⟩ := shown_le v h'.1.2
    obtain ⟨c, d⟩ := shownKv_le xs h'.2
    refine ⟨?_, by simp only [PyData.showableKv, b, b2, d, Bool.and_self]⟩
    simp only [PyData.shownKv, sizKv, piled_cons]
    have e : (k.shown ++ ": " ++ v.shown).length = k.shown.length + 2 + v.shown.length := by
      rw [strLen_append, strLen_append]
      rfl
    rw [e]
    omega
end
/-- bounds that add up -/
structure Fit (d : PyData) (n k : Nat) : Prop where
  ok : okD d = true
  sz : siz d ≤ n
  dp : d.depth ≤ k
structure FitA (ds : List PyData) (n k : Nat) : Prop where
  ok : okAll ds = true
  sz : sizAll ds ≤ n
  dp : PyData.depthAll ds ≤ k
theorem FitA.nil {k : Nat} : FitA [] 0 k := ⟨rfl, Nat.le_refl _, Nat.zero_le _⟩
theorem FitA.cons {d : PyData} {ds : List PyData} {n m k : Nat} (h : Fit d n k) (t : FitA ds m k) : FitA (d :: ds) (n + 2 + m) k :=
  ⟨by simp only [okAll, h.ok, t.ok, Bool.and_self], by simp only [sizAll]; have := h.sz; have := t.sz; omega, by simp only [PyData.depthAll]; have := h.dp; have := t.dp; omega⟩
theorem FitA.app {ds es : List PyData} {n m k : Nat} (h : FitA ds n k) (t : FitA es m k) : FitA (ds ++ es) (n + m) k := by
  induction ds generalizing n with
  | nil => exact ⟨t.ok, by have := t.sz; show sizAll es ≤ _; omega, t.dp⟩
  | cons d ds ih =>
    have h1 : okD d = true ∧ okAll ds = true := by simpa [okAll] using h.ok
    have h2 := h.sz
    have h3 := h.dp
    simp only [sizAll] at h2
    simp only [PyData.depthAll] at h3
    have i := ih (n := n - (siz d + 2)) ⟨h1.2, by omega, by omega⟩
    refine ⟨by simp only [List.cons_append, okAll, h1.1, i.ok, Bool.and_self], ?_, ?_⟩
    · simp only [List.cons_append, sizAll]; have := i.sz; omega
    · simp only [List.cons_append, PyData.depthAll]; have := i.dp; omega
theorem FitA.all {ds : List PyData} {n k : Nat} (h : ∀ d ∈ ds, Fit d n k) : FitA ds (ds.length * (n + 2)) k := by
  induction ds with
  | nil => exact ⟨rfl, Nat.zero_le _, Nat.zero_le _⟩
  | cons d ds ih =>
    have := (FitA.cons (h d (by simp)) (ih fun e he => h e (List.mem_cons_of_mem _ he)))
    exact ⟨this.ok, by have := this.sz; rw [List.length_cons, Nat.succ_mul]; omega, this.dp⟩
theorem Fit.list {ds : List PyData} {n k : Nat} (h : FitA ds n k) : Fit (.list ds) (n + 3) (k + 1) := ⟨by simpa only [okD] using h.ok, by simp only [siz]; have := h.sz; omega, by simp only [PyData.depth]; have := h.dp; omega⟩
theorem Fit.tuple {ds : List PyData} {n k : Nat} (h : FitA ds n k) : Fit (.tuple ds) (n + 3) (k + 1) := ⟨by simpa only [okD] using h.ok, by simp only [siz]; have := h.sz; omega, by simp only [PyData.depth]; have := h.dp; omega⟩
theorem Fit.int {i : Int} (h : i.natAbs < 10 ^ 40) {k : Nat} : Fit (.int i) 41 k := ⟨by simpa [okD] using h, by simp only [siz]; exact Nat.le_refl _, by simp only [PyData.depth]; exact Nat.zero_le _⟩
theorem Fit.mono {d : PyData} {n m k j : Nat} (h : Fit d n k) (a : n ≤ m := by omega) (b : k ≤ j := by omega) : Fit d m j := ⟨h.ok, Nat.le_trans h.sz a, Nat.le_trans h.dp b⟩
theorem FitA.mono {d : List PyData} {n m k j : Nat} (h : FitA d n k) (a : n ≤ m := by omega) (b : k ≤ j := by omega) : FitA d m j := ⟨h.ok, Nat.le_trans h.sz a, Nat.le_trans h.dp b⟩
theorem fit_ints {xs : List Int} (h : ∀ x ∈ xs, x.natAbs < 10 ^ 40) {k : Nat} : FitA (xs.map .int) (xs.length * 43) k := by
  have := FitA.all (ds := xs.map PyData.int) (n := 41) (k := k) fun d hd => by
    obtain ⟨x, hx, rfl⟩ := List.mem_map.mp hd
    exact Fit.int (h x hx)
  rwa [List.length_map] at this
theorem fit_repr {d : PyData} {n k : Nat} {Q : PyData → Prop} (hl : (∃ xs, d = .list xs) ∨ ∃ xs, d = .tuple xs) (h : Fit d n k) (hn : n ≤ 10000000 := by omega) (hk : k ≤ 60 := by omega) (q : Q (.str d.shown)) : ReprD d Q := by
  obtain ⟨a, b⟩ := shown_le d h.ok
  exact ⟨hl, b, Nat.le_trans h.dp hk, Nat.le_trans (Nat.le_trans a (Nat.le_trans h.sz hn)) (by decide), q⟩
end Tee

/-! part O: own lists from comprehensions, zip, shapes -/
namespace Tee
open PySem PySem.Spec PyProof.Rows L2
/-- a name gets a list that is no part of anything -/
theorem EnvR.take {K : PySem.W.Frag} {H0 : Hp} {ρ : Rho} {σ : L2.St} {G R H : Hp} (E : EnvR K H0 ρ σ G R H) (i : Nat) {xs : List PyData} {vs : List V} {p : Addr} (hp : H p = some (.lst vs)) (gp : G p = none) (rp : R p = none) (h0p : H0 p = none) (bes : Beside ρ σ p) (h : DdAll G vs xs) :
    EnvR K H0 (ρ.set i (some (.own xs))) (σ.set i (some (.ref p))) G R H := by
  refine E.put i (o := .lst xs) (v := .ref p) ⟨vs, hp, h⟩ fun a ha => ?_
  rw [List.mem_singleton.mp (show a ∈ [p] from ha)]
  exact ⟨⟨gp, rp, h0p, _, hp⟩, bes⟩
section
variable {S : Sta} {ρ : Rho} {R : Out → Prop} {elt a b c e tg iter t : Expr} {es rest ifs : List Expr} {x y : Str} {p pos px py : Pos}
/-- name = [.. for ..], a list of the def's own -/
theorem w1_setLcO (i : Nat) {elt : Expr} {ifs : List Expr} {scope : Scope} (own : List (Str × Nat)) (L : List Nat)
    (hi : WI S tg iter ρ fun ds => ds.length ≤ 1000000 ∧ ∃ J : Nat → List PyData → Prop, J 0 [] ∧
      (∀ i d acc, ds[i]? = some d → J i acc → WTg (S.blk scope) tg L (wipeR ρ (own.map (·.2))) d fun ρ' => WTs (S.blk scope) ifs ρ' fun k =>
        (k = true → WE (S.blk scope) elt ρ' fun y => J (i + 1) (acc ++ [y])) ∧ (k = false → J (i + 1) acc)) ∧ ∀ acc, J ds.length acc → R (.nx (ρ.set i (some (.own acc)))))
    (hN : S.N[i]? = some x) (hk : S.sc.kind = .function) (hl : S.sc.names.lookup x = some .local) (hln : (px.line == p.line) = true := by rfl) (hany : (scope.names.any fun (n, k) => n == x && (k == .local || k == .cell)) = false := by decide +kernel)
    (hspos : pos.line = p.line ∨ True := by exact .inr trivial)
    (ok : blkC S.N S.sc scope own = true := by (try dsimp only); decide +kernel) (hL : ∀ j ∈ L, j ∈ own.map (·.2) := by decide) (hifs : ifs.length ≤ 1 := by first | exact Nat.le_refl _ | exact Nat.zero_le _) (hs : ∀ env x, foldedSetIterable iter env x = pure x := by intro _ _; rfl) :
    W1 S (.Assign [.Name x px] (.ListComp elt [⟨tg, iter, ifs, 0⟩] scope p) pos) ρ R := by
  intro X f G0 R0 H0 σ G Rr H s0 E D okD
  obtain ⟨wi, pi, rd⟩ := lc_read (Q := fun d => ∃ acc, d = .list acc ∧ R (.nx (ρ.set i (some (.own acc))))) f hL hifs E (hi.mono fun ds ⟨h1, J, h2, h3, h4⟩ => ⟨h1, J, h2, h3, fun acc hJ => ⟨acc, rfl, h4 acc hJ⟩⟩)
  have ps : PS X (.Assign [.Name x px] (.ListComp elt [⟨tg, iter, ifs, 0⟩] scope p) pos) (tAsg (tLc wi (tUGB X scope tg) (tUTB X scope ifs) (tUB X scope elt) (own.map (·.2))) (gName i)) := by
    refine ps_setLc f.calm f.nd (by rw [f.N]; exact hN) (by rw [f.sc]; exact hl) (sw_true (by rw [f.sc]; exact hk) (by rw [f.sc]; exact hl) hln hany) pi (blkOk_by (by rw [f.N, f.sc]; exact ok)) (fun s H C cl fp => ⟨fun pins s' σ H v u Q I r h => h s _ C cl fp pins s' u I r⟩) (fun s H C cl fp => ?_) (fun s H C cl fp => ⟨fun pins s' σ H Q I h => h s _ C cl fp pins s' I⟩) (hs _)
    cases ifs with
    | nil => exact pts_nil
    | cons t r =>
      cases r with
      | nil => exact pts_one ⟨fun pins s' σ H Q I h => h s _ C cl fp pins s' I⟩
      | cons t2 r2 => exact absurd hifs (by simp)
  refine W1.by ps (rd _ fun acc D vs G' R' H' q hD st hd gd rd' dd bes => ?_)
  obtain ⟨acc', e, q⟩ := q
  cases e
  have h0 : H0 D = none := by
    cases z : H0 D with
    | none => rfl
    | some u => obtain ⟨u2, y⟩ := s0.dom _ _ z; rw [hD] at y; cases y
  exact okD.nx _ _ _ _ _ q (s0.trans st) ((E.step st).take i hd gd rd' h0 bes dd)

/-! ### zip of two lists or two tuples -/
def zipD (xs ys : List PyData) : List PyData := (xs.zip ys).map fun q => .tuple [q.1, q.2]
theorem zipD_get {xs ys : List PyData} {i : Nat} {x y : PyData} (h1 : xs[i]? = some x) (h2 : ys[i]? = some y) : (zipD xs ys)[i]? = some (.tuple [x, y]) := by
  unfold zipD
  rw [List.getElem?_map, (List.getElem?_zip_eq_some (z := (x, y))).mpr ⟨h1, h2⟩]
  rfl
theorem zipD_len (xs ys : List PyData) : (zipD xs ys).length = min xs.length ys.length := by unfold zipD; rw [List.length_map, List.length_zip]
theorem good_zip {K : PySem.W.Frag} {a b : Addr} {vs ws : List V} {ds es : List PyData} {G : Hp} {J : It}
    (hgo : ∀ i H, J.go i H ↔ ∃ (xs ys : List V) (x y : V), SqL K H a xs ∧ SqL K H b ys ∧ xs[i]? = some x ∧ ys[i]? = some y)
    (hy : ∀ i H v H', J.yld i H v H' → ∃ T x y, v = .ref T ∧ H T = none ∧ H' = upd H T (.tup [x, y]) ∧ (∀ xs, SqL K H a xs → xs[i]? = some x) ∧ ∀ ys, SqL K H b ys → ys[i]? = some y)
    (hst : ∀ i H, (∃ xs ys : List V, SqL K H a xs ∧ SqL K H b ys ∧ (xs.length ≤ i ∨ ys.length ≤ i)) → J.stop i H)
    (h1 : G a = some (.lst vs)) (h2 : G b = some (.lst ws)) (r1 : DdAll G vs ds) (r2 : DdAll G ws es) : Good J (zipD ds es) G := by
  intro G' R' H' sg w i
  have qa := SqL.of (K := K) (w.gh _ _ (sg _ _ h1))
  have qb := SqL.of (K := K) (w.gh _ _ (sg _ _ h2))
  refine ⟨fun hi => ?_, fun hi => hst _ _ ⟨vs, ws, qa, qb, ?_⟩⟩
  · rw [zipD_len] at hi
    obtain ⟨d, ed⟩ : ∃ d, ds[i]? = some d := ⟨_, List.getElem?_eq_getElem (by omega)⟩
    obtain ⟨e, ee⟩ : ∃ d, es[i]? = some d := ⟨_, List.getElem?_eq_getElem (by omega)⟩
    obtain ⟨v, ev, dv⟩ := r1.get ed
    obtain ⟨u, eu, du⟩ := r2.get ee
    refine ⟨(hgo _ _).mpr ⟨vs, ws, v, u, qa, qb, ev, eu⟩, fun x H'' hx => ?_⟩
    obtain ⟨T, x1, x2, rfl, nT, rfl, f1, f2⟩ := hy _ _ _ _ hx
    cases (f1 _ qa).symm.trans ev
    cases (f2 _ qb).symm.trans eu
    have st := Stp.new w (p := T) (o := .tup [v, u]) nT
    have dv' := Dd.mono (sg.trans st.gg) _ _ dv
    have du' := Dd.mono (sg.trans st.gg) _ _ du
    exact ⟨_, .tuple [d, e], st, zipD_get ed ee, .tup upd_same (.cons dv' (.cons du' .nil))⟩
  · rw [zipD_len] at hi
    rw [r1.len, r2.len]
    omega
theorem good_zipT {K : PySem.W.Frag} {a b : Addr} {vs ws : List V} {ds es : List PyData} {G : Hp} {J : It}
    (hgo : ∀ i H, J.go i H ↔ ∃ (xs ys : List V) (x y : V), SqT K H a xs ∧ SqT K H b ys ∧ xs[i]? = some x ∧ ys[i]? = some y)
    (hy : ∀ i H v H', J.yld i H v H' → ∃ T x y, v = .ref T ∧ H T = none ∧ H' = upd H T (.tup [x, y]) ∧ (∀ xs, SqT K H a xs → xs[i]? = some x) ∧ ∀ ys, SqT K H b ys → ys[i]? = some y)
    (hst : ∀ i H, (∃ xs ys : List V, SqT K H a xs ∧ SqT K H b ys ∧ (xs.length ≤ i ∨ ys.length ≤ i)) → J.stop i H)
    (h1 : G a = some (.tup vs)) (h2 : G b = some (.tup ws)) (r1 : DdAll G vs ds) (r2 : DdAll G ws es) : Good J (zipD ds es) G := by
  intro G' R' H' sg w i
  have qa := SqT.of (K := K) (w.gh _ _ (sg _ _ h1))
  have qb := SqT.of (K := K) (w.gh _ _ (sg _ _ h2))
  refine ⟨fun hi => ?_, fun hi => hst _ _ ⟨vs, ws, qa, qb, ?_⟩⟩
  · rw [zipD_len] at hi
    obtain ⟨d, ed⟩ : ∃ d, ds[i]? = some d := ⟨_, List.getElem?_eq_getElem (by omega)⟩
    obtain ⟨e, ee⟩ : ∃ d, es[i]? = some d := ⟨_, List.getElem?_eq_getElem (by omega)⟩
    obtain ⟨v, ev, dv⟩ := r1.get ed
    obtain ⟨u, eu, du⟩ := r2.get ee
    refine ⟨(hgo _ _).mpr ⟨vs, ws, v, u, qa, qb, ev, eu⟩, fun x H'' hx => ?_⟩
    obtain ⟨T, x1, x2, rfl, nT, rfl, f1, f2⟩ := hy _ _ _ _ hx
    cases (f1 _ qa).symm.trans ev
    cases (f2 _ qb).symm.trans eu
    have st := Stp.new w (p := T) (o := .tup [v, u]) nT
    have dv' := Dd.mono (sg.trans st.gg) _ _ dv
    have du' := Dd.mono (sg.trans st.gg) _ _ du
    exact ⟨_, .tuple [d, e], st, zipD_get ed ee, .tup upd_same (.cons dv' (.cons du' .nil))⟩
  · rw [zipD_len] at hi
    rw [r1.len, r2.len]
    omega
theorem wi_zip {elts : List Expr} {kk : Nat} {tpos : Pos} {Q : List PyData → Prop} (h : WD S [a, b] ρ fun ds => ∃ xs ys, (ds = [.list xs, .list ys] ∨ ds = [.tuple xs, .tuple ys]) ∧ Q (zipD xs ys)) (hm : S.mg "zip" = none) (hg : Gb S "zip" := by rfl)
    (hs : ∀ env, starEach [a, b] env = (false, eval a env) :: starEach [b] env := by intro _; rfl) (hpl : ∀ env, (backTo pos (starEach [b] env)).any (·.1) = false := by intro _; rfl) :
    WI S (.Tuple elts kk tpos) (.Call (.Name "zip" p) [a, b] [] pos) ρ Q := by
  intro X f H0 σ G R H E
  obtain ⟨t, pt, ht⟩ := h X f H0 σ G R H E
  refine ⟨_, RZ.pi_zipA (gb_of f hg) (by rw [f.mg]; exact hm) pt (hs _) (hpl _), fun RV k => ht _ fun ds vs G2 R2 H2 ⟨xs, ys, e, q⟩ st dd => ?_⟩
  rcases e with e | e <;> subst e
  · cases dd with
    | cons d1 t =>
      cases t with
      | cons d2 t =>
        cases t
        cases d1 with
        | lst q1 r1 =>
          cases d2 with
          | lst q2 r2 =>
            exact ⟨_, _, _, _, rfl, .inl ⟨SqL.of (st.wd.gh _ _ q1), SqL.of (st.wd.gh _ _ q2), k _ _ G2 R2 H2 q st (good_zip (K := X.K) (fun _ _ => Iff.rfl) (fun _ _ _ _ z => z) (fun _ _ z => z) q1 q2 r1 r2)⟩⟩
  · cases dd with
    | cons d1 t =>
      cases t with
      | cons d2 t =>
        cases t
        cases d1 with
        | tup q1 r1 =>
          cases d2 with
          | tup q2 r2 =>
            exact ⟨_, _, _, _, rfl, .inr ⟨SqT.of (st.wd.gh _ _ q1), SqT.of (st.wd.gh _ _ q2), k _ _ G2 R2 H2 q st (good_zipT (K := X.K) (fun _ _ => Iff.rfl) (fun _ _ _ _ z => z) (fun _ _ z => z) q1 q2 r1 r2)⟩⟩
end
end Tee

/-! part P: lists that a call hands over, lists that are lent, while, index, xs[k] += e -/
namespace Tee
open PySem PySem.Spec PyProof.Rows L2
/-! ### calls that hand over a list of their own -/
abbrev WpO := List SV → (List PyData → Prop) → Prop
def spVO (K : PySem.W.Frag) (W : WpO) : Sp := fun vs H Q _ => ∃ (G R : Hp) (as : List SV) (Q0 : List PyData → Prop), Wd G R H ∧ ArgsR K G R vs as ∧ W as Q0 ∧
  ∀ xs l us G2 R2 H2, Q0 xs → Stp G R H G2 R2 H2 → H2 l = some (.lst us) → G2 l = none → R2 l = none → H l = none → DdAll G2 us xs → Q (.ref l) H2
structure HasO (P : Program) (w : World) (K : PySem.W.Frag) (mg : Str → Option Value) (base : Heap) (x : Str) (k : Nat) (W : WpO) : Prop where
  ex : ∃ (f : Addr) (fd : FuncData) (ps : List Str), mg x = some (.ref f) ∧ PySem.W.keepIn K (.ref f) = true ∧ Binds K fd ps [] ∧ Gok P w K mg base CX0 k f fd ps (spVO K W)
abbrev Sta.hasO (S : Sta) (x : Str) (k : Nat) (W : WpO) : Prop := HasO S.P S.w S.K S.mg S.base x k W
def endO (Q : List PyData → Prop) : Out → Prop
  | .ro xs => Q xs
  | _ => False
theorem Stp.out {G R H G2 R2 H2 : Hp} (s : Stp G R H G2 R2 H2) {l : Addr} (h2 : G2 l = none) (h3 : R2 l = none) (h4 : H l = none) : Stp G R H G2 R2 (fun b => if b = l then none else H2 b) := by
  have ne : ∀ {b : Addr} {o : Option HO}, b ≠ l → (if b = l then none else o) = o := fun h => if_neg h
  refine ⟨⟨fun b o e => ?_, fun b o e => ?_, s.wd.dis⟩, fun b o n e => ?_, fun b o e => ?_, s.gg, s.gnew, s.rnew, s.rel⟩
  · show (if b = l then none else H2 b) = some o
    rw [ne (ne_of_none e h2)]; exact s.wd.gh _ _ e
  · show (if b = l then none else H2 b) = some o
    rw [ne (ne_of_none e h3)]; exact s.wd.rh _ _ e
  · show (if b = l then none else H2 b) = some o
    rw [ne (ne_of_none e h4)]; exact s.keep _ _ n e
  · show ∃ u, (if b = l then none else H2 b) = some u
    rw [ne (ne_of_none e h4)]; exact s.dom _ _ e
section
variable {S : Sta} {ρ : Rho} {R : Out → Prop} {a b c e iter tg : Expr} {es sts0 : List Expr} {sts rest body orelse : List Stmt} {st : Stmt} {x y : Str} {p px py pos : Pos}
theorem wf_call {k : Nat} {W : WpO} {Q : List PyData → Prop} (F : S.hasO x k W) (hk : k ≤ S.k) (h : WG S (e :: es) ρ fun as => W as Q) (hg : Gb S x := by rfl)
    (hdb : (x == ("__debug__" : Str)) = false := by decide) (he : ∀ env, starEach (e :: es) env = (false, eval e env) :: starEach es env := by intro _; rfl)
    (hpl : ∀ env, (backTo pos (starEach es env)).any (·.1) = false := by intro _; rfl) : WF S (.Call (.Name x p) (e :: es) [] pos) ρ Q := by
  intro X f H0 σ G R H E QV kq
  obtain ⟨g, fd, ps, hm, kp, hb, ok⟩ := F.ex
  obtain ⟨t, pt, ht⟩ := h X f H0 σ G R H E
  refine WE.by (pe_callG (E := E0) f.gd (gok_fits f ok) (f.room.mono hk) (gb_of f hg) (by rw [f.mg]; exact hm) (by rw [f.K]; exact kp) (by rw [f.K]; exact hb) .nil pass0 pt hdb (he _) (hpl _)) ?_
  refine ht _ fun as vs G2 R2 H2 q st r => ?_
  rw [List.append_nil]
  show spVO S.K W vs H2 QV E0
  refine ⟨G2, R2, as, Q, st.wd, r, q, fun xs l us G3 R3 H3 q3 s3 h1 h2 h3 h4 dd => ?_⟩
  have so := s3.out h2 h3 h4
  have e3 : H3 = upd (fun b => if b = l then none else H3 b) l (.lst us) := by
    funext b
    by_cases z : b = l
    · subst z; rw [upd_same]; exact h1
    · rw [upd_ne z]; exact (if_neg z).symm
  have := kq xs us l G3 R3 _ q3 (st.trans so) (if_pos rfl) dd
  rwa [← e3] at this
theorem we_callO {k : Nat} {W : WpO} {Q : PyData → Prop} (F : S.hasO x k W) (hk : k ≤ S.k) (h : WG S (e :: es) ρ fun as => W as fun xs => Q (.list xs)) (hg : Gb S x := by rfl)
    (hdb : (x == ("__debug__" : Str)) = false := by decide) (he : ∀ env, starEach (e :: es) env = (false, eval e env) :: starEach es env := by intro _; rfl)
    (hpl : ∀ env, (backTo pos (starEach es env)).any (·.1) = false := by intro _; rfl) : WE S (.Call (.Name x p) (e :: es) [] pos) ρ Q := by
  intro X f H0 σ G R H E QV kq
  refine wf_call F hk h hg hdb he hpl X f H0 σ G R H E QV fun xs vs q G2 R2 H2 hq st hn dd => ?_
  exact newL st.wd (fun d v G3 R3 H3 q s3 => kq d v G3 R3 H3 q (st.trans s3)) hn dd hq
end
section
variable {P : Program} {w : World} {K : PySem.W.Frag} {mg : Str → Option Value} {base : Heap}
theorem hasO_fun {x qual : Str} {st : Stmt} {f : Addr} {fd : FuncData} {N ps : List Str} {k : Nat} (W : WpO) (F : Fun K x qual st f fd) (hm : mg x = some (.ref f)) (b : Binds K fd ps []) (Sc : FnScope N ps (defScope st)) (sys : SysAt base)
    (hlen : ∀ as Q, W as Q → as.length = ps.length) (hb : ∀ as Q, W as Q → WS ⟨P, w, K, mg, base, N, defScope st, fun _ => true, k⟩ (defBody st) (startR N as) (endO Q)) : HasO P w K mg base x (k + 1) W := by
  refine ⟨f, fd, ps, hm, F.kp, b, ?_⟩
  obtain ⟨oc, od, kV, doc, pm, an, cdv, ct, osl, rfl, lk, hcd⟩ := F.ex
  refine g_of lk hcd Sc (fun vs H Q E h => ?_) fun B above t H vs Q E hg hr h => ?_
  · obtain ⟨G, R, as, Q0, wd, r, hW, _⟩ := h
    rw [r.len]
    exact hlen as Q0 hW
  · obtain ⟨G, R, as, Q0, wd, r, hW, k0⟩ := h
    let X : Cx := (cxOf CX0 P w K mg base N qual (defScope st) f cdv B above t H E).nox
    have ft : Fits ⟨P, w, K, mg, base, N, defScope st, fun _ => true, k⟩ X := ⟨rfl, rfl, rfl, rfl, rfl, rfl, rfl, fun _ h => h, rfl, hg, hr, sys, Sc.nd, rfl⟩
    refine ⟨tUS X (defBody st), (pss_U (X := X)).nox, hb as Q0 hW X ft G R H (L2.start N vs) G R H (Stp.refl wd) (env_start wd r) _ ⟨fun ρ σ G2 R2 H2 q s _ => q.elim, fun d v G2 R2 H2 q s dd => q.elim, fun _ _ _ _ _ q _ _ => q.elim, fun _ _ _ _ _ q _ _ => q.elim, fun xs l vs G2 R2 H2 q s h1 h2 h3 h4 h5 => k0 _ _ _ _ _ _ q s h1 h2 h3 h4 h5, fun as its v G2 R2 H2 q => q.elim⟩⟩
end
/-! ### a list of the def's own is lent to an expression -/
def atomD : PyData → Bool
  | .none | .bool _ | .int _ | .str _ => true
  | _ => false
theorem Dd.atom {G G' : Hp} {v : V} {d : PyData} (h : Dd G v d) (a : atomD d = true) : Dd G' v d := by
  cases h <;> first | exact .non | exact .bl _ | exact .int _ | exact .str _ | cases a
theorem EnvR.lend {K : PySem.W.Frag} {H0 : Hp} {ρ : Rho} {σ : L2.St} {G R H : Hp} (E : EnvR K H0 ρ σ G R H) {i : Nat} {xs : List PyData} (hi : ρ[i]? = some (some (.own xs))) :
    ∃ l G2, EnvR K H0 (ρ.set i (some (.dat (.list xs)))) σ G2 R H ∧ G l = none ∧ (∀ b, b ≠ l → G2 b = G b) ∧ (∃ o, G2 l = some o) ∧ (∃ o, H l = some o) ∧ R l = none := by
  obtain ⟨l, vs, e1, h1, h2, h3, h4, h5⟩ := own_at E hi
  obtain ⟨G2, E2, dd, sm, nw, ex⟩ := E.freezeX hi e1
  refine ⟨l, G2, E2, h2, ex, ?_, ⟨_, h1⟩, h3⟩
  cases dd with
  | lst h _ => exact ⟨_, h⟩
theorem Stp.back {G R H G2 G3 R3 H3 : Hp} (s : Stp G2 R H G3 R3 H3) {l : Addr} (hl : G l = none) (same : ∀ b, b ≠ l → G2 b = G b) : Stp G R H (fun b => if b = l then none else G3 b) R3 H3 := by
  refine ⟨⟨fun b o e => ?_, s.wd.rh, fun b o e => ?_⟩, s.keep, s.dom, fun b o e => ?_, fun b o e n => ?_, s.rnew, s.rel⟩
  · by_cases z : b = l
    · simp [z] at e
    · exact s.wd.gh b o (by simpa [z] using e)
  · by_cases z : b = l
    · simp [z]
    · simp [z, s.wd.dis b o e]
  · have z : b ≠ l := ne_of_none e hl
    show (if b = l then none else G3 b) = some o
    rw [if_neg z]
    exact s.gg b o (by rw [same b z]; exact e)
  · by_cases z : b = l
    · simp [z] at e
    · exact s.gnew b o (by simpa [z] using e) (by rw [same b z]; exact n)
section
variable {S : Sta} {ρ : Rho} {R : Out → Prop} {a b c e iter tg : Expr} {es sts0 : List Expr} {sts rest body orelse : List Stmt} {st : Stmt} {x y : Str} {p px py pos : Pos}
theorem we_lend (i : Nat) {xs : List PyData} {Q : PyData → Prop} (hr : ρ[i]? = some (some (.own xs))) (h : WE S e (ρ.set i (some (.dat (.list xs)))) fun d => atomD d = true ∧ Q d) : WE S e ρ Q := by
  intro X f H0 σ G R H E QV kq
  obtain ⟨l, G2, E2, hl, same, _⟩ := E.lend hr
  exact h X f H0 σ G2 R H E2 QV fun d v G3 R3 H3 q s dd => kq d v _ R3 H3 q.2 (s.back hl same) (dd.atom q.1)
theorem wt_lend (i : Nat) {xs : List PyData} {Q : Bool → Prop} (hr : ρ[i]? = some (some (.own xs))) (h : WT S e (ρ.set i (some (.dat (.list xs)))) Q) : WT S e ρ Q := by
  intro X f H0 σ G R H E QV kq
  obtain ⟨l, G2, E2, hl, same, _⟩ := E.lend hr
  exact h X f H0 σ G2 R H E2 QV fun k G3 R3 H3 q s => kq k _ R3 H3 q (s.back hl same)
/-! ### while -/
theorem w1_while (J : Rho → Prop) (μ : Rho → Nat) (h0 : J ρ) (ht : ∀ ρ', J ρ' → WT S c ρ' fun k => (k = true → WS S body ρ' fun o => match o with
        | .nx ρ3 => J ρ3 ∧ μ ρ3 < μ ρ'
        | .ct ρ3 => J ρ3 ∧ μ ρ3 < μ ρ'
        | .bk ρ3 => R (.nx ρ3)
        | .rt d => R (.rt d)
        | .ro xs => R (.ro xs)
        | .rn as its => R (.rn as its)) ∧ (k = false → R (.nx ρ'))) : W1 S (.While c body [] pos) ρ R := by
  intro X f G0 R0 H0 σ G Rr H s0 E D ok
  refine W1.by (ps_while (by rw [f.xe]; exact PassesOwn.never) pt_U pss_U) ⟨fun m σ' H' => ∃ ρ' G' R', m = μ ρ' ∧ J ρ' ∧ Stp G0 R0 H0 G' R' H' ∧ EnvR S.K H0 ρ' σ' G' R' H', ⟨_, ρ, G, Rr, rfl, h0, s0, E⟩, fun m σ' H' ⟨ρ', G', R', em, hJ, s', E'⟩ => ?_⟩
  subst em
  refine ht ρ' hJ X f H0 σ' G' R' H' E' _ fun k G2 R2 H2 q st => ?_
  cases k with
  | true =>
    rw [if_pos rfl]
    refine ⟨fun σ'' H'' => ∃ ρ3 G3 R3, J ρ3 ∧ μ ρ3 < μ ρ' ∧ Stp G0 R0 H0 G3 R3 H'' ∧ EnvR S.K H0 ρ3 σ'' G3 R3 H'', fun σ'' H'' ⟨ρ3, G3, R3, h1, h2, h3, h4⟩ => ⟨_, h2, ρ3, G3, R3, rfl, h1, h3, h4⟩, ?_⟩
    exact q.1 rfl X f G0 R0 H0 σ' G2 R2 H2 (s'.trans st) (E'.step st) _ ⟨fun ρ3 σ3 G3 R3 H3 r s3 E3 => ⟨ρ3, G3, R3, r.1, r.2, s3, E3⟩, ok.rt, fun ρ3 σ3 G3 R3 H3 r s3 E3 => ok.nx _ _ _ _ _ r s3 E3, fun ρ3 σ3 G3 R3 H3 r s3 E3 => ⟨ρ3, G3, R3, r.1, r.2, s3, E3⟩, ok.ro, ok.rn⟩
  | false =>
    rw [if_neg (by decide)]
    exact ok.nx _ _ _ _ _ (q.2 rfl) (s'.trans st) (E'.step st)
/-! ### xs.index(e), xs[k] += e: lists of ints -/
theorem we_indexI (i : Nat) {ns : List Int} {pa pc : Pos} {Q : PyData → Prop} (hr : ρ[i]? = some (some (.own (ns.map .int)))) (h : WE S e ρ fun d => ∃ n j, d = .int n ∧ ns[j]? = some n ∧ (∀ m z, m < j → ns[m]? = some z → z ≠ n) ∧ Q (.int (j : Nat)))
    (hN : S.N[i]? = some x) (hv : Vis S.sc x) (hd : (x == ("__debug__" : Str)) = false := by decide) (hcd : (x == ("__classdict__" : Str)) = false := by decide)
    (he : ∀ env, starEach [e] env = (false, eval e env) :: starEach [] env := by intro _; rfl)
    (hfew : ∀ env, ((backTo pc (starEach [e] env)).all (fun x => !x.1) && (backToKw pc (keywordEach [] env)).all (fun x => x.1.isSome)
      && decide ([e].length + ([] : List Keyword).length + (if ([] : List Keyword).isEmpty then 0 else 1) < 30)) = true := by intro _; rfl)
    (hbase : ∀ env, attributeBase (.Name x px) "index" env (eval (.Name x px) env) = eval (.Name x px) env := by intro _; rfl) (hline : (pa.endLine == pc.line) = true := by rfl) :
    WE S (.Call (.Attribute (.Name x px) "index" pa) [e] [] pc) ρ Q := by
  intro X f H0 σ G R H E QV kq
  refine WE.by (pe_bm PySem.F.plainAttrs_list PySem.F.slot_list_index PySem.F.type_list_index mt_index (pe_var (i := i) (by rw [f.N]; exact hN) (by rw [f.sc]; exact hv) hd hcd) (pa_cons pe_U pa_nil (he _)) (hbase _) (hfew _) hline (he _) (by rfl)) ?_
  obtain ⟨l, vs, e1, h1, h2, h3, h4, h5⟩ := own_at E hr
  have ev := DdAll.intsV _ h5
  refine ⟨.ref l, e1, .inl ⟨rfl, _, SqL.of h1⟩, h X f H0 σ G R H E _ fun d v G2 R2 H2 q st dd => ?_⟩
  obtain ⟨n, j, rfl, hj, hno, q⟩ := q
  cases dd
  obtain ⟨k1, k2, k3⟩ := st.apart h1 h2 h3
  refine ⟨l, vs, .int n, j, .int n, rfl, rfl, SqL.of k1, rfl, ?_, ?_, ?_, fun m z hm hz => ?_, kq _ _ _ _ _ q st (.int _)⟩
  · rw [ev, List.all_map, List.all_eq_true]; intro z _; rfl
  · rw [ev, List.getElem?_map, hj]; rfl
  · show (n == n) = true; exact beq_self_eq_true n
  · rw [ev, List.getElem?_map] at hz
    cases hz2 : ns[m]? with
    | none => rw [hz2] at hz; cases hz
    | some z2 =>
      rw [hz2] at hz
      cases hz
      show (z2 == n) = false
      exact beq_eq_false_iff_ne.mpr (hno m z2 hm hz2)
def rGetI : V → V → Hp → VK → Prop := fun x y H Q => ∃ (p : Addr) (ns : List Int) (j : Nat) (n : Int), x = .ref p ∧ y = .int (j : Int) ∧ H p = some (.lst (ns.map V.int)) ∧ ns[j]? = some n ∧ Q (.int n) H
theorem get_ints {X : Cx} : PGet X rGetI := by
  intro pins s σ H o i ov iv Q I ro ri h
  obtain ⟨p, ns, j, n, rfl, rfl, hp, hj, q⟩ := h
  cases ro
  obtain ⟨t, rfl⟩ := ri
  obtain ⟨its, r, pl, hz⟩ := I.list (SqL.of hp)
  have hjl : j < ns.length := (List.getElem?_eq_some_iff.mp hj).1
  have hl : its.length = (ns.map V.int).length := r.length.symm
  rw [List.length_map] at hl
  obtain ⟨u, eu, ru⟩ := r.get (i := j) (x := V.int n) (by rw [List.getElem?_map, hj]; rfl)
  have hn := line63
  rw [List.length_map] at hz
  refine wpAny_getItem_list pl.isList (by omega) (by omega) ?_ ⟨.int n, H, I, ru, q⟩
  simpa using eu
theorem w1_augS (i : Nat) {ns : List Int} {ps' : Pos} (hr : ρ[i]? = some (some (.own (ns.map .int)))) (h : WO S b ρ fun dk => ∃ (j : Nat) (n : Int), dk = .int (j : Int) ∧ ns[j]? = some n ∧ WE S e ρ fun d => ∃ m, d = .int m ∧ R (.nx (ρ.set i (some (.own ((ns.set j (n + m)).map .int))))))
    (hN : S.N[i]? = some x) (hv : Vis S.sc x) (hd : (x == ("__debug__" : Str)) = false := by decide) (hcd : (x == ("__classdict__" : Str)) = false := by decide)
    (ha : ∀ ov iv new, augStore b ov iv new = (do holding [new, ov, iv] (setItem ov iv new); release [new, ov, iv] []; pure .next) := by intros; rfl) :
    W1 S (.AugAssign (.Subscript (.Name x px) b ps') .Add e pos) ρ R := by
  intro X f G0 R0 H0 σ G Rr H s0 E D ok
  refine W1.by (ps_augS (pe_var (i := i) (by rw [f.N]; exact hN) (by rw [f.sc]; exact hv) hd hcd) pe_U get_ints pe_U ip_add set_list ha) ?_
  obtain ⟨l, vs, e1, h1, h2, h3, h4, h5⟩ := own_at E hr
  have ev := DdAll.intsV _ h5
  refine ⟨.ref l, e1, h X f H0 σ G Rr H E _ fun dk u G2 R2 H2 hb st o => ?_⟩
  obtain ⟨j, n, rfl, hj, hb⟩ := hb
  have E2 := E.step st
  obtain ⟨k1, k2, k3⟩ := st.apart h1 h2 h3
  refine ⟨l, ns, j, n, rfl, o.int, by rw [k1, ev], hj, hb X f H0 σ G2 R2 H2 E2 _ fun d v G3 R3 H3 q st3 dd => ?_⟩
  obtain ⟨m, rfl, q⟩ := q
  cases dd
  have E3 := E2.step st3
  obtain ⟨c1, c2, c3⟩ := st3.apart k1 k2 k3
  have hjl : j < ns.length := (List.getElem?_eq_some_iff.mp hj).1
  have s3 := (s0.trans st).trans st3
  refine ⟨n, m, rfl, rfl, l, vs, (j : Int), j, rfl, o.int, c1, ?_, ok.nx _ _ _ _ _ q (s3.off h4 c2 c3) ?_⟩
  · unfold ixN
    rw [if_pos (by omega), if_pos (by rw [ev, List.length_map]; omega)]
    rw [Int.toNat_natCast]
  · refine E3.chg hr e1 ?_
    rw [ev, List.map_set]
    have : (ns.map V.int).set j (.int (n + m)) = ((ns.set j (n + m)).map V.int) := by rw [List.map_set]
    rw [this, ← List.map_set]
    exact DdAll.ints _
end
end Tee

/-! ranks, by counting -/
namespace Tee
def gt (l : List Int) (v : Int) : Nat := (l.filter fun x => decide (v < x)).length
theorem gt_nil (v : Int) : gt [] v = 0 := rfl
theorem gt_cons (y : Int) (l : List Int) (v : Int) : gt (y :: l) v = gt l v + (if v < y then 1 else 0) := by
  unfold gt
  by_cases h : v < y
  · rw [List.filter_cons_of_pos (by simpa using h), if_pos h, List.length_cons]
  · rw [List.filter_cons_of_neg (by simpa using h), if_neg h, Nat.add_zero]
theorem gt_le (l : List Int) (v w : Int) (h : v ≤ w) : gt l w ≤ gt l v := by
  induction l with
  | nil => exact Nat.le_refl _
  | cons y l ih =>
    rw [gt_cons, gt_cons]
    by_cases h1 : w < y
    · rw [if_pos h1, if_pos (by omega)]; omega
    · rw [if_neg h1]; split <;> omega
theorem gt_mem {l : List Int} {x : Int} : x ∈ l ↔ gt l x < gt l (x - 1) := by
  induction l with
  | nil => simp [gt_nil]
  | cons y l ih =>
    rw [List.mem_cons, gt_cons, gt_cons, ih]
    have := gt_le l (x - 1) x (by omega)
    constructor
    · rintro (rfl | h)
      · rw [if_neg (by omega), if_pos (by omega)]; omega
      · split <;> split <;> omega
    · intro h
      by_cases e : x = y
      · exact .inl e
      · right
        by_cases h1 : x < y
        · rw [if_pos h1, if_pos (by omega)] at h; omega
        · rw [if_neg h1, if_neg (by omega)] at h; omega
theorem gt_lt {l : List Int} {x : Int} (h : x ∈ l) : gt l x < l.length := by
  unfold gt
  refine List.length_filter_lt_length_iff_exists.mpr ⟨x, h, by simp⟩
theorem gt_set {l : List Int} {i : Nat} {x : Int} (h : l[i]? = some x) (v : Int) : gt (l.set i (x + 1)) v = gt l v + (if v = x then 1 else 0) := by
  induction l generalizing i with
  | nil => simp at h
  | cons y l ih =>
    cases i with
    | zero =>
      simp at h
      subst h
      rw [List.set_cons_zero, gt_cons, gt_cons]
      by_cases e : v = y
      · rw [if_pos (by omega), if_neg (by omega), if_pos e]
      · rw [if_neg e]
        by_cases e2 : v < y
        · rw [if_pos (by omega), if_pos e2]
        · rw [if_neg (by omega), if_neg e2]
    | succ i =>
      rw [List.set_cons_succ, gt_cons, gt_cons, ih (by simpa using h)]
      omega
def Dec (c : List Int) : Prop := c.Pairwise fun a b => b ≤ a
theorem dec_gt {c : List Int} (h : Dec c) (v : Int) : ∀ {i : Nat} {x : Int}, c[i]? = some x → (i < gt c v ↔ v < x) := by
  induction c with
  | nil => intro i x e; simp at e
  | cons y c ih =>
    intro i x e
    obtain ⟨h1, h2⟩ := List.pairwise_cons.mp h
    rw [gt_cons]
    by_cases hv : v < y
    · rw [if_pos hv]
      cases i with
      | zero => simp at e; subst e; omega
      | succ i =>
        have := ih h2 (i := i) (x := x) (by simpa using e)
        omega
    · rw [if_neg hv]
      have z : gt c v = 0 := by
        unfold gt
        rw [List.length_eq_zero_iff, List.filter_eq_nil_iff]
        intro a ha
        have := h1 a ha
        simp
        omega
      rw [z]
      have : x ≤ y := by
        cases i with
        | zero => simp at e; omega
        | succ i => exact h1 x (List.mem_of_getElem? (by simpa using e))
      omega
structure Rel (l c : List Int) : Prop where
  len : l.length = c.length
  gt : ∀ v, gt l v = gt c v
  dec : Dec c
theorem Rel.val {l c : List Int} (R : Rel l c) {i : Nat} {x : Int} (h : l[i]? = some x) : c[Tee.gt l x]? = some x ∧ ∀ y, 0 < Tee.gt l x → c[Tee.gt l x - 1]? = some y → x < y := by
  have hm : x ∈ l := List.mem_of_getElem? h
  have h1 := gt_lt hm
  rw [R.len] at h1
  have hc : c[Tee.gt l x]? = some c[Tee.gt l x] := List.getElem?_eq_getElem h1
  have a := dec_gt R.dec x hc
  rw [← R.gt x] at a
  have b := dec_gt R.dec (x - 1) hc
  rw [← R.gt (x - 1)] at b
  have d := gt_mem.mp hm
  have e : c[Tee.gt l x] = x := by omega
  refine ⟨by rw [hc, e], fun y h0 hy => ?_⟩
  have := dec_gt R.dec x hy
  rw [← R.gt x] at this
  omega
theorem Rel.at {l c : List Int} (R : Rel l c) {k : Nat} {x : Int} (hk : c[k]? = some x) (hd : ∀ y, 0 < k → c[k - 1]? = some y → x < y) : Tee.gt l x = k ∧ x ∈ l := by
  have a := dec_gt R.dec x hk
  have b := dec_gt R.dec (x - 1) hk
  have hkl := (List.getElem?_eq_some_iff.mp hk).1
  have g : Tee.gt c x = k := by
    by_cases h0 : 0 < k
    · have hy : c[k - 1]? = some c[k - 1] := List.getElem?_eq_getElem (by omega)
      have := dec_gt R.dec x hy
      have := hd _ h0 hy
      omega
    · omega
  refine ⟨by rw [R.gt, g], gt_mem.mpr ?_⟩
  rw [R.gt, R.gt, g]
  omega
theorem Rel.bump {l c : List Int} (R : Rel l c) {i k : Nat} {x : Int} (hi : l[i]? = some x) (hk : c[k]? = some x) (hd : ∀ y, 0 < k → c[k - 1]? = some y → x < y) : Rel (l.set i (x + 1)) (c.set k (x + 1)) := by
  refine ⟨by rw [List.length_set, List.length_set]; exact R.len, fun v => by rw [gt_set hi, gt_set hk, R.gt], ?_⟩
  unfold Dec
  rw [List.pairwise_iff_getElem]
  intro a b ha hb hab
  rw [List.length_set] at ha hb
  have hp := List.pairwise_iff_getElem.mp R.dec
  rw [List.getElem_set, List.getElem_set]
  have hx : ∀ h, c[k]'h = x := fun h => by
    rw [List.getElem?_eq_getElem h] at hk
    exact Option.some.inj hk
  by_cases h1 : k = a
  · subst h1
    rw [if_pos rfl, if_neg (by omega)]
    have := hp k b ha hb hab
    rw [hx] at this
    omega
  · rw [if_neg h1]
    by_cases h2 : k = b
    · subst h2
      rw [if_pos rfl]
      have hy : c[k - 1]? = some c[k - 1] := List.getElem?_eq_getElem (by omega)
      have q := hd _ (by omega) hy
      by_cases h3 : a = k - 1
      · subst h3; omega
      · have := hp a (k - 1) ha (by omega) (by omega)
        omega
    · rw [if_neg h2]
      exact hp a b ha hb hab
theorem rel_start (r : Nat) : Rel (List.replicate r 0) (List.replicate r 0) := ⟨rfl, fun _ => rfl, by
  unfold Dec
  rw [List.pairwise_iff_getElem]
  intro i j hi hj _
  rw [List.getElem_replicate, List.getElem_replicate]
  exact Int.le_refl _⟩
def bump (l : List Int) (j : Nat) : List Int := l.set j (l.getD j 0 + 1)
theorem bump_at {l : List Int} {j : Nat} {x : Int} (h : l[j]? = some x) : bump l j = l.set j (x + 1) := by
  unfold bump
  rw [List.getD_eq_getElem?_getD, h]
  rfl
theorem bump_len (l : List Int) (j : Nat) : (bump l j).length = l.length := List.length_set
def bumps (l : List Int) (hs : List Nat) : List Int := hs.foldl bump l
theorem bumps_len (l : List Int) (hs : List Nat) : (bumps l hs).length = l.length := by
  unfold bumps
  induction hs generalizing l with
  | nil => rfl
  | cons h hs ih => rw [List.foldl_cons, ih, bump_len]
theorem bumps_snoc (l : List Int) (hs : List Nat) (h : Nat) : bumps l (hs ++ [h]) = bump (bumps l hs) h := by unfold bumps; rw [List.foldl_append]; rfl
theorem take_snoc {α : Type} {hs : List α} {i : Nat} {h : α} (e : hs[i]? = some h) : hs.take (i + 1) = hs.take i ++ [h] := by rw [List.take_add_one, e]; rfl
/-- the ranks of reads -/
def ranksFrom : List Int → List Nat → List Nat
  | _, [] => []
  | l, h :: hs => gt l (l.getD h 0) :: ranksFrom (bump l h) hs
theorem ranksFrom_snoc (l : List Int) (hs : List Nat) (h : Nat) : ranksFrom l (hs ++ [h]) = ranksFrom l hs ++ [gt (bumps l hs) ((bumps l hs).getD h 0)] := by
  induction hs generalizing l with
  | nil => rfl
  | cons a hs ih => show gt l (l.getD a 0) :: ranksFrom (bump l a) (hs ++ [h]) = _; rw [ih]; rfl
theorem ranksFrom_len (l : List Int) (hs : List Nat) : (ranksFrom l hs).length = hs.length := by
  induction hs generalizing l with
  | nil => rfl
  | cons a hs ih => show (ranksFrom (bump l a) hs).length + 1 = _; rw [ih]; rfl
/-- ranks that keep the order -/
def OkFrom : List Int → List Nat → Prop
  | _, [] => True
  | c, k :: ks => k < c.length ∧ (∀ x y, 0 < k → c[k]? = some x → c[k - 1]? = some y → x < y) ∧ OkFrom (bump c k) ks
theorem OkFrom.at {c : List Int} {ks : List Nat} (h : OkFrom c ks) : ∀ {i k : Nat}, ks[i]? = some k → k < c.length ∧ ∀ x y, 0 < k → (bumps c (ks.take i))[k]? = some x → (bumps c (ks.take i))[k - 1]? = some y → x < y := by
  induction ks generalizing c with
  | nil => intro i k e; simp at e
  | cons a ks ih =>
    intro i k e
    obtain ⟨h1, h2, h3⟩ := h
    cases i with
    | zero => simp at e; subst e; exact ⟨h1, h2⟩
    | succ i =>
      have := ih h3 (i := i) (k := k) (by simpa using e)
      rw [bump_len] at this
      exact this
theorem ok_ranks {l c : List Int} (R : Rel l c) {hs : List Nat} (hh : ∀ h ∈ hs, h < l.length) : OkFrom c (ranksFrom l hs) := by
  induction hs generalizing l c with
  | nil => trivial
  | cons h hs ih =>
    have hl : h < l.length := hh h (by simp)
    have hi : l[h]? = some l[h] := List.getElem?_eq_getElem hl
    have hg : l.getD h 0 = l[h] := by rw [List.getD_eq_getElem?_getD, hi]; rfl
    obtain ⟨v1, v2⟩ := R.val hi
    show gt l (l.getD h 0) < c.length ∧ _ ∧ OkFrom (bump c (gt l (l.getD h 0))) (ranksFrom (bump l h) hs)
    rw [hg]
    refine ⟨(List.getElem?_eq_some_iff.mp v1).1, fun x y h0 hx hy => ?_, ?_⟩
    · rw [v1] at hx
      cases hx
      exact v2 y h0 hy
    · rw [bump_at v1, bump_at hi]
      exact ih (R.bump hi v1 v2) fun a ha => by rw [List.length_set]; exact hh a (by simp [ha])
/-- the first reader with a rank -/
def pick (l : List Int) (k : Nat) : Nat := l.findIdx fun x => gt l x == k
theorem pick_spec {l c : List Int} (R : Rel l c) {k : Nat} {x : Int} (hk : c[k]? = some x) (hd : ∀ y, 0 < k → c[k - 1]? = some y → x < y) :
    l[pick l k]? = some x ∧ gt l x = k ∧ (∀ m z, m < pick l k → l[m]? = some z → z ≠ x ∧ gt l z ≠ k) := by
  obtain ⟨g, hm⟩ := R.at hk hd
  have ex : ∃ z ∈ l, (gt l z == k) = true := ⟨x, hm, by rw [g]; exact beq_self_eq_true k⟩
  have hlt : pick l k < l.length := List.findIdx_lt_length_of_exists ex
  have hsat : (gt l l[pick l k] == k) = true := List.findIdx_getElem (w := hlt)
  have hp : l[pick l k]? = some l[pick l k] := List.getElem?_eq_getElem hlt
  have e : l[pick l k] = x := by
    have v := (R.val hp).1
    rw [eq_of_beq hsat, hk] at v
    exact (Option.some.inj v).symm
  refine ⟨by rw [hp, e], g, fun m z hm hz => ?_⟩
  have hml : m < l.length := by omega
  have hn := List.not_of_lt_findIdx (p := fun x => gt l x == k) (xs := l) hm
  rw [List.getElem?_eq_getElem hml] at hz
  cases hz
  have hn' : gt l l[m] ≠ k := fun q => by
    have h2 : (gt l l[m] == k) = false := hn
    rw [beq_eq_false_iff_ne] at h2
    exact h2 q
  exact ⟨fun q => hn' (by rw [q]; exact g), hn'⟩
def firstFrom : List Int → List Nat → List Nat
  | _, [] => []
  | l, k :: ks => pick l k :: firstFrom (bump l (pick l k)) ks
theorem firstFrom_len (l : List Int) (ks : List Nat) : (firstFrom l ks).length = ks.length := by
  induction ks generalizing l with
  | nil => rfl
  | cons a ks ih => show (firstFrom (bump l _) ks).length + 1 = _; rw [ih]; rfl
theorem firstFrom_snoc (l : List Int) (ks : List Nat) (k : Nat) : firstFrom l (ks ++ [k]) = firstFrom l ks ++ [pick (bumps l (firstFrom l ks)) k] := by
  induction ks generalizing l with
  | nil => rfl
  | cons a ks ih => show pick l a :: firstFrom (bump l (pick l a)) (ks ++ [k]) = _; rw [ih]; rfl
/-- what holds ahead of each rank, and behind all -/
theorem first_at {l c : List Int} (R : Rel l c) {ks : List Nat} (ok : OkFrom c ks) : ∀ i, i ≤ ks.length → Rel (bumps l (firstFrom l (ks.take i))) (bumps c (ks.take i)) := by
  intro i
  induction i with
  | zero => intro _; exact R
  | succ i ih =>
    intro hi
    have R' := ih (by omega)
    have hk : ks[i]? = some ks[i] := List.getElem?_eq_getElem (by omega)
    obtain ⟨k1, k2⟩ := ok.at hk
    have hlen : ks[i] < (bumps c (ks.take i)).length := by rw [bumps_len]; exact k1
    have hx : (bumps c (ks.take i))[ks[i]]? = some (bumps c (ks.take i))[ks[i]] := List.getElem?_eq_getElem hlen
    have hd := fun y h0 hy => k2 _ y h0 hx hy
    obtain ⟨p1, p2, p3⟩ := pick_spec R' hx hd
    rw [take_snoc hk, firstFrom_snoc, bumps_snoc, bumps_snoc, bump_at p1, bump_at hx]
    exact R'.bump p1 hx hd
theorem first_pick {l c : List Int} (R : Rel l c) {ks : List Nat} (ok : OkFrom c ks) {i k : Nat} (hk : ks[i]? = some k) : ∃ x, (bumps c (ks.take i))[k]? = some x ∧ (bumps l (firstFrom l (ks.take i)))[pick (bumps l (firstFrom l (ks.take i))) k]? = some x ∧
    gt (bumps l (firstFrom l (ks.take i))) x = k ∧ (∀ m z, m < pick (bumps l (firstFrom l (ks.take i))) k → (bumps l (firstFrom l (ks.take i)))[m]? = some z → z ≠ x ∧ gt (bumps l (firstFrom l (ks.take i))) z ≠ k) := by
  have R' := first_at R ok i (by have := (List.getElem?_eq_some_iff.mp hk).1; omega)
  obtain ⟨k1, k2⟩ := ok.at hk
  have hlen : k < (bumps c (ks.take i)).length := by rw [bumps_len]; exact k1
  have hx := List.getElem?_eq_getElem hlen
  obtain ⟨p1, p2, p3⟩ := pick_spec R' hx fun y h0 hy => k2 _ y h0 hx hy
  exact ⟨_, hx, p1, p2, p3⟩
theorem ranks_first {l c : List Int} (R : Rel l c) {ks : List Nat} (ok : OkFrom c ks) : ranksFrom l (firstFrom l ks) = ks ∧ ∀ h ∈ firstFrom l ks, h < l.length := by
  induction ks generalizing l c with
  | nil => exact ⟨rfl, fun h hh => by cases hh⟩
  | cons k ks ih =>
    obtain ⟨h1, h2, h3⟩ := ok
    have hx : c[k]? = some c[k] := List.getElem?_eq_getElem h1
    have hd := fun y h0 hy => h2 _ y h0 hx hy
    obtain ⟨p1, p2, p3⟩ := pick_spec R hx hd
    have R' := R.bump p1 hx hd
    rw [← bump_at p1, ← bump_at hx] at R'
    obtain ⟨a, b⟩ := ih R' h3
    have hg : l.getD (pick l k) 0 = c[k] := by rw [List.getD_eq_getElem?_getD, p1]; rfl
    refine ⟨?_, fun h hh => ?_⟩
    · show gt l (l.getD (pick l k) 0) :: ranksFrom (bump l (pick l k)) (firstFrom (bump l (pick l k)) ks) = _
      rw [hg, p2, a]
    · rcases List.mem_cons.mp hh with rfl | hh
      · exact (List.getElem?_eq_some_iff.mp p1).1
      · have := b h hh
        rwa [bump_len] at this
end Tee

/-! part Q: a, b = two lists of the def's own -/
namespace Tee
open PySem PySem.Spec PyProof.Rows L2
section
variable {S : Sta} {ρ : Rho} {R : Out → Prop} {a b c e : Expr} {x y : Str} {p px py pos : Pos}
/-- a, b = e1, e2, both new lists of the def's own; plain local names -/
theorem w1_parOO (i j : Nat) {kt k2 : Nat} {pt pt2 : Pos} (h : WF S a ρ fun ds => WF S b ρ fun es => R (.nx ((ρ.set i (some (.own ds))).set j (some (.own es))))) (hN : S.N[i]? = some x) (hN' : S.N[j]? = some y) (hij : i ≠ j)
    (hl : S.sc.names.lookup x = some .local) (hl' : S.sc.names.lookup y = some .local)
    (hw : ∀ env : Env, env.scope = S.sc → swappedStores [.Tuple [.Name x px, .Name y py] kt pt] (.Tuple [a, b] k2 pt2) env = pure (some [x, y]))
    (hs : ∀ env, swapsWithSole [.Tuple [.Name x px, .Name y py] kt pt] (.Tuple [a, b] k2 pt2) pos.line env = pure false := by intro _; rfl)
    (he : ∀ env, starEach [a, b] env = (false, eval a env) :: starEach [b] env := by intro _; rfl) (he2 : ∀ env, starEach [b] env = (false, eval b env) :: starEach [] env := by intro _; rfl) :
    W1 S (.Assign [.Tuple [.Name x px, .Name y py] kt pt] (.Tuple [a, b] k2 pt2) pos) ρ R := by
  intro X f G0 R0 H0 σ G Rr H s0 E D ok
  refine W1.by (ps_par (i := i) (j := j) f.calm f.nd (by rw [f.N]; exact hN) (by rw [f.N]; exact hN') hij (by rw [f.sc]; exact hl) (by rw [f.sc]; exact hl') (pa_cons pe_U (pa_cons pe_U pa_nil (he2 _)) (he _)) (hw _ f.sc) (hs _)) ?_
  refine h X f H0 σ G Rr H E _ fun ds vs p G2 R2 H2 hb st hp dd => ?_
  obtain ⟨f0, fg, fr⟩ := (s0.trans st).free hp
  have bes : Beside ρ σ p := (E.step st).beside hp
  have E2 := (E.step st).off (o := .lst vs) fg fr bes
  have s2 := (s0.trans st).off (o := .lst vs) f0 fg fr
  refine hb X f H0 σ G2 R2 _ E2 _ fun es ws q G3 R3 H3 r st3 hq ddl => ?_
  obtain ⟨c1, c2, c3⟩ := st3.apart upd_same fg fr
  have s3 := s2.trans st3
  obtain ⟨q0, qg, qr⟩ := s3.free hq
  have E4 := (E2.step st3).take i c1 c2 c3 f0 bes (DdAll.mono st3.gg _ _ dd)
  exact ⟨.ref p, .ref q, rfl, ok.nx _ _ _ _ _ r (s3.off q0 qg qr) (E4.setO (fun b o z => s3.dom b o z) j hq ddl)⟩
/-- the same, of names that inner scopes know -/
theorem w1_parOOc (i j : Nat) {kt k2 : Nat} {pt pt2 : Pos} (h : WF S a ρ fun ds => WF S b ρ fun es => R (.nx ((ρ.set i (some (.own ds))).set j (some (.own es))))) (hN : S.N[i]? = some x) (hN' : S.N[j]? = some y)
    (hl : L2.Loc S.sc x) (hf : S.fn x = true ∨ S.sc.names.lookup x = some .local) (hl' : L2.Loc S.sc y) (hf' : S.fn y = true ∨ S.sc.names.lookup y = some .local)
    (hw : ∀ env : Env, env.scope = S.sc → swappedStores [.Tuple [.Name x px, .Name y py] kt pt] (.Tuple [a, b] k2 pt2) env = pure none)
    (hs : ∀ env, swapsWithSole [.Tuple [.Name x px, .Name y py] kt pt] (.Tuple [a, b] k2 pt2) pos.line env = pure false := by intro _; rfl)
    (he : ∀ env, starEach [a, b] env = (false, eval a env) :: starEach [b] env := by intro _; rfl) (he2 : ∀ env, starEach [b] env = (false, eval b env) :: starEach [] env := by intro _; rfl) :
    W1 S (.Assign [.Tuple [.Name x px, .Name y py] kt pt] (.Tuple [a, b] k2 pt2) pos) ρ R := by
  intro X f G0 R0 H0 σ G Rr H s0 E D ok
  have g1 := pg_name (X := X) (pos := px) (i := i) f.nd (by rw [f.N]; exact hN) (by unfold L2.Loc; rw [f.sc]; exact hl) (hf.elim (fun z => .inl (f.fn _ z)) (fun z => .inr (by rw [f.sc]; exact z)))
  have g2 := pg_name (X := X) (pos := py) (i := j) f.nd (by rw [f.N]; exact hN') (by unfold L2.Loc; rw [f.sc]; exact hl') (hf'.elim (fun z => .inl (f.fn _ z)) (fun z => .inr (by rw [f.sc]; exact z)))
  refine W1.by (ps_asg (pe_tup (pa_cons pe_U (pa_cons pe_U pa_nil (he2 _)) (he _))) (pg_tup f.calm (pgs_cons g1 (pgs_cons g2 pgs_nil))) (hs _) (hw _ f.sc)) ?_
  refine h X f H0 σ G Rr H E _ fun ds vs p G2 R2 H2 hb st hp dd => ?_
  obtain ⟨f0, fg, fr⟩ := (s0.trans st).free hp
  have bes : Beside ρ σ p := (E.step st).beside hp
  have E2 := (E.step st).off (o := .lst vs) fg fr bes
  have s2 := (s0.trans st).off (o := .lst vs) f0 fg fr
  refine hb X f H0 σ G2 R2 _ E2 _ fun es ws q G3 R3 H3 r st3 hq ddl => ?_
  obtain ⟨c1, c2, c3⟩ := st3.apart upd_same fg fr
  have s3 := s2.trans st3
  obtain ⟨q0, qg, qr⟩ := s3.free hq
  have E4 := (E2.step st3).take i c1 c2 c3 f0 bes (DdAll.mono st3.gg _ _ dd)
  have E5 := E4.setO (fun b o z => s3.dom b o z) j hq ddl
  have s5 := s3.off (o := .lst ws) q0 qg qr
  refine ⟨by show 2 ≤ sizeLine; decide, fun tp htp => ?_⟩
  obtain ⟨t0, tg, tr⟩ := s5.free htp
  have E6 := E5.off (o := .tup [.ref p, .ref q]) tg tr (E5.beside htp)
  exact ⟨tp, [.ref p, .ref q], rfl, SqT.of upd_same, rfl, .ref p, [.ref q], rfl, .ref q, [], rfl, rfl, ok.nx _ _ _ _ _ r (s5.off t0 tg tr) E6⟩
/-- a, b = e1, e2, both data; names that inner scopes know -/
theorem w1_parDc (i j : Nat) {kt k2 : Nat} {pt pt2 : Pos} (h : WE S a ρ fun d => WE S b ρ fun d' => R (.nx ((ρ.set i (some (.dat d))).set j (some (.dat d'))))) (hN : S.N[i]? = some x) (hN' : S.N[j]? = some y)
    (hl : L2.Loc S.sc x) (hf : S.fn x = true ∨ S.sc.names.lookup x = some .local) (hl' : L2.Loc S.sc y) (hf' : S.fn y = true ∨ S.sc.names.lookup y = some .local)
    (hw : ∀ env : Env, env.scope = S.sc → swappedStores [.Tuple [.Name x px, .Name y py] kt pt] (.Tuple [a, b] k2 pt2) env = pure none)
    (hs : ∀ env, swapsWithSole [.Tuple [.Name x px, .Name y py] kt pt] (.Tuple [a, b] k2 pt2) pos.line env = pure false := by intro _; rfl)
    (he : ∀ env, starEach [a, b] env = (false, eval a env) :: starEach [b] env := by intro _; rfl) (he2 : ∀ env, starEach [b] env = (false, eval b env) :: starEach [] env := by intro _; rfl) :
    W1 S (.Assign [.Tuple [.Name x px, .Name y py] kt pt] (.Tuple [a, b] k2 pt2) pos) ρ R := by
  intro X f G0 R0 H0 σ G Rr H s0 E D ok
  have g1 := pg_name (X := X) (pos := px) (i := i) f.nd (by rw [f.N]; exact hN) (by unfold L2.Loc; rw [f.sc]; exact hl) (hf.elim (fun z => .inl (f.fn _ z)) (fun z => .inr (by rw [f.sc]; exact z)))
  have g2 := pg_name (X := X) (pos := py) (i := j) f.nd (by rw [f.N]; exact hN') (by unfold L2.Loc; rw [f.sc]; exact hl') (hf'.elim (fun z => .inl (f.fn _ z)) (fun z => .inr (by rw [f.sc]; exact z)))
  refine W1.by (ps_asg (pe_tup (pa_cons pe_U (pa_cons pe_U pa_nil (he2 _)) (he _))) (pg_tup f.calm (pgs_cons g1 (pgs_cons g2 pgs_nil))) (hs _) (hw _ f.sc)) ?_
  refine h X f H0 σ G Rr H E _ fun d v G2 R2 H2 hb st dd => hb X f H0 σ G2 R2 H2 (E.step st) _ fun d' v' G3 R3 H3 r st3 dd' => ?_
  refine ⟨by show 2 ≤ sizeLine; decide, fun tp htp => ?_⟩
  have s3 := s0.trans (st.trans st3)
  have st4 := Stp.new (o := .tup [v, v']) s3.wd htp
  have E6 := (E.step ((st.trans st3).trans st4))
  have dd2 := Dd.mono (st3.trans st4).gg _ _ dd
  have dd3 := Dd.mono st4.gg _ _ dd'
  exact ⟨tp, [v, v'], rfl, SqT.of upd_same, rfl, v, [v'], rfl, v', [], rfl, rfl, ok.nx _ _ _ _ _ r (s3.trans st4) ((E6.setD i dd2).setD j dd3)⟩
end
end Tee

/-! part R: flat data; own objects that are lent; new lists of lists -/
namespace Tee
open PySem PySem.Spec PyProof.Rows L2
mutual
/-- no list, no dict -/
def flatD : PyData → Bool
  | .none | .bool _ | .int _ | .str _ => true
  | .tuple xs => flatAll xs
  | .list _ | .dict _ => false
def flatAll : List PyData → Bool
  | [] => true
  | x :: xs => flatD x && flatAll xs
end
theorem flatAll_of {xs : List PyData} (h : ∀ x ∈ xs, flatD x = true) : flatAll xs = true := by
  induction xs with
  | nil => rfl
  | cons x xs ih =>
    show (flatD x && flatAll xs) = true
    rw [h x (by simp), ih fun y hy => h y (List.mem_cons_of_mem _ hy)]
    rfl
def cutH (G : Hp) (fp : List Addr) : Hp := fun b => if inDec fp b = true then none else G b
theorem cutH_in {G : Hp} {fp : List Addr} {b : Addr} (h : b ∈ fp) : cutH G fp b = none := if_pos (inDec_iff.mpr h)
theorem cutH_out {G : Hp} {fp : List Addr} {b : Addr} (h : b ∉ fp) : cutH G fp b = G b := if_neg fun z => h (inDec_iff.mp z)
mutual
theorem Dd.cutF {G : Hp} {fp : List Addr} (nt : ∀ a ∈ fp, ∀ vs, G a ≠ some (.tup vs)) : ∀ (d : PyData) (v : V), flatD d = true → Dd G v d → Dd (cutH G fp) v d
  | .none, _, _, h => by cases h; exact .non
  | .bool b, _, _, h => by cases h; exact .bl b
  | .int i, _, _, h => by cases h; exact .int i
  | .str x, _, _, h => by cases h; exact .str x
  | .list ds, _, f, h => by simp [flatD] at f
  | .tuple ds, _, f, h => by
    cases h with
    | @tup a xs _ h r => exact .tup (by rw [cutH_out (fun q => nt a q xs h)]; exact h) (DdAll.cutF nt ds _ (by simpa only [flatD] using f) r)
  | .dict kvs, _, f, h => by simp [flatD] at f
theorem DdAll.cutF {G : Hp} {fp : List Addr} (nt : ∀ a ∈ fp, ∀ vs, G a ≠ some (.tup vs)) : ∀ (ds : List PyData) (vs : List V), flatAll ds = true → DdAll G vs ds → DdAll (cutH G fp) vs ds
  | [], _, _, h => by cases h; exact .nil
  | d :: ds, _, f, h => by
    obtain ⟨f1, f2⟩ := Bool.and_eq_true_iff.mp (show (flatD d && flatAll ds) = true from f)
    cases h with
    | cons h t => exact .cons (Dd.cutF nt d _ f1 h) (DdAll.cutF nt ds _ f2 t)
end
theorem NstAll.nt {G H : Hp} : ∀ {its : List (PyData ⊕ List PyData)} {vs : List V} {fps : List Addr}, NstAll G H vs its fps → ∀ a ∈ fps, ∃ ws, H a = some (.lst ws)
  | [], [], [], _, _, ha => by cases ha
  | .inl d :: its, v :: vs, [], h, a, ha => by cases ha
  | .inl d :: its, v :: vs, p :: fps, h, a, ha => NstAll.nt (its := its) (vs := vs) h.2 a ha
  | .inr xs :: its, v :: vs, p :: fps, h, a, ha => by
    rcases List.mem_cons.mp ha with rfl | ha
    · obtain ⟨_, ⟨ws, h2, _⟩, _⟩ := h
      exact ⟨ws, h2⟩
    · exact NstAll.nt (its := its) (vs := vs) h.2.2 a ha
theorem OwnAt.nt {G H : Hp} {o : OwnO} {v : V} (h : OwnAt G H o v) : ∀ a ∈ foot o v, ∃ u, H a = some u ∧ ∀ vs, u ≠ .tup vs := by
  intro a ha
  cases v with
  | ref l =>
    cases o with
    | lst xs =>
      obtain ⟨vs, h1, _⟩ := h
      rw [List.mem_singleton.mp (show a ∈ [l] from ha)]
      exact ⟨_, h1, fun vs q => by cases q⟩
    | dct kvs =>
      obtain ⟨es, h1, _⟩ := h
      rw [List.mem_singleton.mp (show a ∈ [l] from ha)]
      exact ⟨_, h1, fun vs q => by cases q⟩
    | nst as its =>
      obtain ⟨vs, fps, e, nd, h1, h2⟩ := h
      have ha : a ∈ as := ha
      rw [e] at ha
      rcases List.mem_cons.mp ha with rfl | ha
      · exact ⟨_, h1, fun vs q => by cases q⟩
      · obtain ⟨ws, h3⟩ := h2.nt a ha
        exact ⟨_, h3, fun vs q => by cases q⟩
  | _ => cases o <;> exact h.elim
theorem EnvR.lendO {K : PySem.W.Frag} {H0 : Hp} {ρ : Rho} {σ : L2.St} {G R H : Hp} (E : EnvR K H0 ρ σ G R H) {i : Nat} {o : OwnO} {d : PyData} (hd : ownD o = some d) (hi : ρ[i]? = some (some (.obj o))) :
    ∃ fp, EnvR K H0 (ρ.set i (some (.dat d))) σ (joinH G H fp) R H ∧ ∀ a ∈ fp, G a = none ∧ ∃ u, H a = some u ∧ ∀ vs, u ≠ .tup vs := by
  obtain ⟨v, hs, ho, fr⟩ := obj_at E hi
  exact ⟨foot o v, (E.freezeO hd hi hs).1, fun a ha => ⟨(fr a ha).1, ho.nt a ha⟩⟩
theorem Stp.backO {G R H G3 R3 H3 : Hp} {fp : List Addr} (s : Stp (joinH G H fp) R H G3 R3 H3) (hg : ∀ a ∈ fp, G a = none ∧ ∃ u, H a = some u ∧ ∀ vs, u ≠ .tup vs) : Stp G R H (cutH G3 fp) R3 H3 ∧ ∀ a ∈ fp, ∀ vs, G3 a ≠ some (.tup vs) := by
  refine ⟨⟨⟨fun b o e => ?_, s.wd.rh, fun b o e => ?_⟩, s.keep, s.dom, fun b o e => ?_, fun b o e n => ?_, s.rnew, s.rel⟩, fun a ha vs q => ?_⟩
  · by_cases z : b ∈ fp
    · rw [cutH_in z] at e; cases e
    · rw [cutH_out z] at e; exact s.wd.gh b o e
  · by_cases z : b ∈ fp
    · exact cutH_in z
    · rw [cutH_out z]; exact s.wd.dis b o e
  · have z : b ∉ fp := fun z => by rw [(hg b z).1] at e; cases e
    rw [cutH_out z]
    exact s.gg b o (by rw [joinH_out z]; exact e)
  · by_cases z : b ∈ fp
    · rw [cutH_in z] at e; cases e
    · rw [cutH_out z] at e; exact s.gnew b o e (by rw [joinH_out z]; exact n)
  · obtain ⟨_, u, h1, h2⟩ := hg a ha
    have := s.gg a u (by rw [joinH_in ha]; exact h1)
    rw [q] at this
    cases this
    exact h2 _ rfl
section
variable {S : Sta} {ρ : Rho} {R : Out → Prop} {a b c e iter tg : Expr} {es rest : List Expr} {x y : Str} {p px py pos : Pos} {o : OwnO} {dO : PyData}
theorem we_lendO (i : Nat) {Q : PyData → Prop} (hr : ρ[i]? = some (some (.obj o))) (h : WE S e (ρ.set i (some (.dat dO))) fun d => flatD d = true ∧ Q d) (hd : ownD o = some dO := by rfl) : WE S e ρ Q := by
  intro X f H0 σ G R H E QV kq
  obtain ⟨fp, E2, hg⟩ := E.lendO hd hr
  refine h X f H0 σ _ R H E2 QV fun d v G3 R3 H3 q s dd => ?_
  obtain ⟨s2, nt⟩ := s.backO hg
  exact kq d v _ R3 H3 q.2 s2 (dd.cutF nt _ _ q.1)
theorem wt_lendO (i : Nat) {Q : Bool → Prop} (hr : ρ[i]? = some (some (.obj o))) (h : WT S e (ρ.set i (some (.dat dO))) Q) (hd : ownD o = some dO := by rfl) : WT S e ρ Q := by
  intro X f H0 σ G R H E QV kq
  obtain ⟨fp, E2, hg⟩ := E.lendO hd hr
  exact h X f H0 σ _ R H E2 QV fun k G3 R3 H3 q s => kq k _ R3 H3 q (s.backO hg).1
theorem wf_lendO (i : Nat) {Q : List PyData → Prop} (hr : ρ[i]? = some (some (.obj o))) (h : WF S e (ρ.set i (some (.dat dO))) fun xs => flatAll xs = true ∧ Q xs) (hd : ownD o = some dO := by rfl) : WF S e ρ Q := by
  intro X f H0 σ G R H E QV kq
  obtain ⟨fp, E2, hg⟩ := E.lendO hd hr
  refine h X f H0 σ _ R H E2 QV fun ds vs p G3 R3 H3 q s hp dd => ?_
  obtain ⟨s2, nt⟩ := s.backO hg
  exact kq ds vs p _ R3 H3 q.2 s2 hp (dd.cutF nt _ _ q.1)
/-! ### a list of its own, or flat data -/
def WM (S : Sta) (e : Expr) (ρ : Rho) (Q : PyData → Prop) : Prop :=
  ∀ X, Fits S X → ∀ H0 σ G R H, EnvR S.K H0 ρ σ G R H → ∀ QV : VK,
    (∀ ds vs p G2 R2 H2, Q (.list ds) → flatAll ds = true → Stp G R H G2 R2 H2 → H2 p = none → DdAll G2 vs ds → QV (.ref p) (upd H2 p (.lst vs))) →
    (∀ d v G2 R2 H2, Q d → flatD d = true → Stp G R H G2 R2 H2 → Dd G2 v d → QV v H2) → tU X e σ H QV
theorem wm_lendO (i : Nat) {Q : PyData → Prop} (hr : ρ[i]? = some (some (.obj o))) (h : WM S e (ρ.set i (some (.dat dO))) Q) (hd : ownD o = some dO := by rfl) : WM S e ρ Q := by
  intro X f H0 σ G R H E QV kq kf
  obtain ⟨fp, E2, hg⟩ := E.lendO hd hr
  refine h X f H0 σ _ R H E2 QV (fun ds vs p G3 R3 H3 q fl s hp dd => ?_) fun d v G3 R3 H3 q fl s dd => ?_
  · obtain ⟨s2, nt⟩ := s.backO hg
    exact kq ds vs p _ R3 H3 q fl s2 hp (dd.cutF nt _ _ fl)
  · obtain ⟨s2, nt⟩ := s.backO hg
    exact kf d v _ R3 H3 q fl s2 (dd.cutF nt _ _ fl)
theorem wm_wf {Q : PyData → Prop} (h : WF S e ρ fun xs => flatAll xs = true ∧ Q (.list xs)) : WM S e ρ Q := fun X f H0 σ G R H E QV kq _ => h X f H0 σ G R H E QV fun ds vs p G2 R2 H2 q => kq ds vs p G2 R2 H2 q.2 q.1
def spVM (K : PySem.W.Frag) (W : Wp) : Sp := fun vs H Q _ => ∃ (G R : Hp) (as : List SV) (Q0 : PyData → Prop), Wd G R H ∧ ArgsR K G R vs as ∧ W as Q0 ∧
  (∀ xs l us G2 R2 H2, Q0 (.list xs) → flatAll xs = true → Stp G R H G2 R2 H2 → H2 l = some (.lst us) → G2 l = none → R2 l = none → H l = none → DdAll G2 us xs → Q (.ref l) H2) ∧
  ∀ d v G2 R2 H2, Q0 d → flatD d = true → Stp G R H G2 R2 H2 → Dd G2 v d → Q v H2
structure HasM (P : Program) (w : World) (K : PySem.W.Frag) (mg : Str → Option Value) (base : Heap) (x : Str) (k : Nat) (W : Wp) : Prop where
  ex : ∃ (f : Addr) (fd : FuncData) (ps : List Str), mg x = some (.ref f) ∧ PySem.W.keepIn K (.ref f) = true ∧ Binds K fd ps [] ∧ Gok P w K mg base CX0 k f fd ps (spVM K W)
abbrev Sta.hasM (S : Sta) (x : Str) (k : Nat) (W : Wp) : Prop := HasM S.P S.w S.K S.mg S.base x k W
theorem wm_call {k : Nat} {W : Wp} {Q : PyData → Prop} (F : S.hasM x k W) (hk : k ≤ S.k) (h : WG S (e :: es) ρ fun as => W as Q) (hg : Gb S x := by rfl)
    (hdb : (x == ("__debug__" : Str)) = false := by decide) (he : ∀ env, starEach (e :: es) env = (false, eval e env) :: starEach es env := by intro _; rfl)
    (hpl : ∀ env, (backTo pos (starEach es env)).any (·.1) = false := by intro _; rfl) : WM S (.Call (.Name x p) (e :: es) [] pos) ρ Q := by
  intro X f H0 σ G R H E QV kq kf
  obtain ⟨g, fd, ps, hm, kp, hb, ok⟩ := F.ex
  obtain ⟨t, pt, ht⟩ := h X f H0 σ G R H E
  refine WE.by (pe_callG (E := E0) f.gd (gok_fits f ok) (f.room.mono hk) (gb_of f hg) (by rw [f.mg]; exact hm) (by rw [f.K]; exact kp) (by rw [f.K]; exact hb) .nil pass0 pt hdb (he _) (hpl _)) ?_
  refine ht _ fun as vs G2 R2 H2 q st r => ?_
  rw [List.append_nil]
  show spVM S.K W vs H2 QV E0
  refine ⟨G2, R2, as, Q, st.wd, r, q, fun xs l us G3 R3 H3 q3 fl s3 h1 h2 h3 h4 dd => ?_, fun d v G3 R3 H3 q3 fl s3 dd => kf _ _ _ _ _ q3 fl (st.trans s3) dd⟩
  have so := s3.out h2 h3 h4
  have e3 : H3 = upd (fun b => if b = l then none else H3 b) l (.lst us) := by
    funext b
    by_cases z : b = l
    · subst z; rw [upd_same]; exact h1
    · rw [upd_ne z]; exact (if_neg z).symm
  have := kq xs us l G3 R3 _ q3 fl (st.trans so) (if_pos rfl) dd
  rwa [← e3] at this
/-- name = a list of its own or flat data; it stands still from then on -/
theorem w1_setM (i : Nat) (h : WM S e ρ fun d => R (.nx (ρ.set i (some (.dat d))))) (hN : S.N[i]? = some x) (hl : L2.Loc S.sc x) (hf : S.fn x = true ∨ S.sc.names.lookup x = some .local) (hs : ∀ env, swapsWith e (some (.Name x p)) pos.line env = pure false := by intro _; rfl) :
    W1 S (.Assign [.Name x p] e pos) ρ R := by
  intro X f G0 R0 H0 σ G Rr H s0 E D ok
  refine W1.by (ps_set (i := i) f.nd (by rw [f.N]; exact hN) (by unfold L2.Loc; rw [f.sc]; exact hl) pe_U (hs _) (hf.elim (fun z => .inl (f.fn _ z)) (fun z => .inr (by rw [f.sc]; exact z)))) ?_
  refine h X f H0 σ G Rr H E _ (fun ds vs q G2 R2 H2 r fl st hq dd => ?_) fun d v G2 R2 H2 r fl st dd => ?_
  · have st2 := st.trans (Stp.new (o := .lst vs) st.wd hq)
    exact ok.nx _ _ _ _ _ r (s0.trans st2) ((E.step st2).setD i (.lst upd_same (DdAll.mono (Stp.new (o := .lst vs) st.wd hq).gg _ _ dd)))
  · exact ok.nx _ _ _ _ _ r (s0.trans st) ((E.step st).setD i dd)
/-- return xs if c else b -/
theorem w1_retIfO (i : Nat) {xs : List PyData} {p2 : Pos} (hr : ρ[i]? = some (some (.own xs))) (h : WT S c ρ fun k => (k = true → R (.ro xs)) ∧ (k = false → WE S b ρ fun d => R (.rt d))) (hN : S.N[i]? = some x) (hv : Vis S.sc x) (hd : (x == ("__debug__" : Str)) = false := by decide) (hcd : (x == ("__classdict__" : Str)) = false := by decide) :
    W1 S (.Return (some (.IfExp c (.Name x p) b p2)) pos) ρ R := by
  intro X f G0 R0 H0 σ G Rr H s0 E D ok
  refine W1.by (ps_ret (pe_ifExp pt_U (pe_var (i := i) (by rw [f.N]; exact hN) (by rw [f.sc]; exact hv) hd hcd) pe_U)) (h X f H0 σ G Rr H E _ fun k G2 R2 H2 q st => ?_)
  cases k with
  | true =>
    rw [if_pos rfl]
    obtain ⟨l, vs, e1, h1, h2, h3, h4, h5⟩ := own_at (E.step st) hr
    exact ⟨.ref l, e1, ok.ro _ _ _ _ _ _ (q.1 rfl) (s0.trans st) h1 h2 h3 h4 h5⟩
  | false =>
    rw [if_neg (by decide)]
    exact q.2 rfl X f H0 σ G2 R2 H2 (E.step st) _ fun d v G3 R3 H3 q3 st3 dd => ok.rt _ _ _ _ _ q3 ((s0.trans st).trans st3) dd
end
def endM (Q : PyData → Prop) : Out → Prop
  | .ro xs => flatAll xs = true ∧ Q (.list xs)
  | .rt d => flatD d = true ∧ Q d
  | _ => False
section
variable {P : Program} {w : World} {K : PySem.W.Frag} {mg : Str → Option Value} {base : Heap}
theorem hasM_fun {x qual : Str} {st : Stmt} {f : Addr} {fd : FuncData} {N ps : List Str} {k : Nat} (W : Wp) (F : Fun K x qual st f fd) (hm : mg x = some (.ref f)) (b : Binds K fd ps []) (Sc : FnScope N ps (defScope st)) (sys : SysAt base)
    (hlen : ∀ as Q, W as Q → as.length = ps.length) (hb : ∀ as Q, W as Q → WS ⟨P, w, K, mg, base, N, defScope st, fun _ => true, k⟩ (defBody st) (startR N as) (endM Q)) : HasM P w K mg base x (k + 1) W := by
  refine ⟨f, fd, ps, hm, F.kp, b, ?_⟩
  obtain ⟨oc, od, kV, doc, pm, an, cdv, ct, osl, rfl, lk, hcd⟩ := F.ex
  refine g_of lk hcd Sc (fun vs H Q E h => ?_) fun B above t H vs Q E hg hr h => ?_
  · obtain ⟨G, R, as, Q0, wd, r, hW, _⟩ := h
    rw [r.len]
    exact hlen as Q0 hW
  · obtain ⟨G, R, as, Q0, wd, r, hW, k0, k1⟩ := h
    let X : Cx := (cxOf CX0 P w K mg base N qual (defScope st) f cdv B above t H E).nox
    have ft : Fits ⟨P, w, K, mg, base, N, defScope st, fun _ => true, k⟩ X := ⟨rfl, rfl, rfl, rfl, rfl, rfl, rfl, fun _ h => h, rfl, hg, hr, sys, Sc.nd, rfl⟩
    refine ⟨tUS X (defBody st), (pss_U (X := X)).nox, hb as Q0 hW X ft G R H (L2.start N vs) G R H (Stp.refl wd) (env_start wd r) _ ⟨fun ρ σ G2 R2 H2 q s _ => q.elim, fun d v G2 R2 H2 q s dd => k1 _ _ _ _ _ q.2 q.1 s dd, fun _ _ _ _ _ q _ _ => q.elim, fun _ _ _ _ _ q _ _ => q.elim, fun xs l vs G2 R2 H2 q s h1 h2 h3 h4 h5 => k0 _ _ _ _ _ _ q.2 q.1 s h1 h2 h3 h4 h5, fun as its v G2 R2 H2 q => q.elim⟩⟩
end
/-! ### new lists of lists -/
theorem NstAll.len {G H : Hp} : ∀ {its : List (PyData ⊕ List PyData)} {vs : List V} {fps : List Addr}, NstAll G H vs its fps → vs.length = its.length
  | [], [], [], _ => rfl
  | .inl d :: its, v :: vs, [], h => congrArg (· + 1) (NstAll.len (its := its) (vs := vs) h.2)
  | .inl d :: its, v :: vs, p :: fps, h => congrArg (· + 1) (NstAll.len (its := its) (vs := vs) h.2)
  | .inr xs :: its, v :: vs, p :: fps, h => congrArg (· + 1) (NstAll.len (its := its) (vs := vs) h.2.2)
theorem NstAll.consD {G H : Hp} {v : V} {vs : List V} {d : PyData} {its : List (PyData ⊕ List PyData)} {fps : List Addr} (h : Dd G v d) (t : NstAll G H vs its fps) : NstAll G H (v :: vs) (.inl d :: its) fps := by
  cases fps <;> exact ⟨h, t⟩
theorem NstAll.app {G H : Hp} : ∀ {its its2 : List (PyData ⊕ List PyData)} {vs vs2 : List V} {fps fps2 : List Addr}, NstAll G H vs its fps → NstAll G H vs2 its2 fps2 → NstAll G H (vs ++ vs2) (its ++ its2) (fps ++ fps2)
  | [], _, [], _, [], _, _, q => q
  | .inl d :: its, _, v :: vs, _, fps, fps2, h, q => by
    have h : Dd G v d ∧ NstAll G H vs its fps := by cases fps <;> exact h
    exact .consD h.1 (NstAll.app h.2 q)
  | .inr xs :: its, _, v :: vs, _, p :: fps, fps2, h, q => ⟨h.1, h.2.1, NstAll.app (its := its) (vs := vs) h.2.2 q⟩
/-- places that came up since H -/
def New (H G2 R2 H2 : Hp) (a : Addr) : Prop := H a = none ∧ G2 a = none ∧ R2 a = none ∧ ∃ u, H2 a = some u
theorem New.free {H0 H G2 R2 H2 : Hp} {a : Addr} (h : New H G2 R2 H2 a) (s0 : ∀ b o, H0 b = some o → ∃ u, H b = some u) : Free H0 G2 R2 H2 a := ⟨h.2.1, h.2.2.1, none_of_dom s0 h.1, h.2.2.2⟩
def WN (S : Sta) (e : Expr) (ρ : Rho) (Q : List (PyData ⊕ List PyData) → Prop) : Prop :=
  ∀ X, Fits S X → ∀ H0 σ G R H, EnvR S.K H0 ρ σ G R H → ∀ QV : VK,
    (∀ its as v G2 R2 H2, Q its → Stp G R H G2 R2 H2 → OwnAt G2 H2 (.nst as its) v → (∀ a ∈ as, New H G2 R2 H2 a) → QV v H2) → tU X e σ H QV
def WNs (S : Sta) (es : List Expr) (ρ : Rho) (Q : List (PyData ⊕ List PyData) → Prop) : Prop :=
  ∀ X, Fits S X → ∀ H0 σ G R H, EnvR S.K H0 ρ σ G R H → ∃ t, PA X es t ∧ ∀ QV : List V → Hp → Prop,
    (∀ its fps vs G2 R2 H2, Q its → Stp G R H G2 R2 H2 → NstAll G2 H2 vs its fps → fps.Nodup → (∀ a ∈ fps, New H G2 R2 H2 a) → QV vs H2) → t σ H QV
section
variable {S : Sta} {ρ : Rho} {R : Out → Prop} {a b c e iter tg : Expr} {es rest : List Expr} {x y : Str} {p px py pos : Pos} {o : OwnO} {dO : PyData} {Q : List (PyData ⊕ List PyData) → Prop}
theorem wns_nil (q : Q []) : WNs S [] ρ Q := fun X f H0 σ G R H E => ⟨_, pa_nil, fun QV kq => kq [] [] _ _ _ _ q (Stp.refl E.wd) trivial List.nodup_nil fun a ha => by cases ha⟩
theorem wns_dat (h : WE S e ρ fun d => WNs S es ρ fun its => Q (.inl d :: its)) (hs : ∀ env, starEach (e :: es) env = (false, eval e env) :: starEach es env := by intro _; rfl) : WNs S (e :: es) ρ Q := by
  intro X f H0 σ G R H E
  refine ⟨_, pa_cons pe_U pa_U (hs _), fun QV kq => h X f H0 σ G R H E _ fun d v G2 R2 H2 q st dd => ?_⟩
  obtain ⟨t, pt, ht⟩ := q X f H0 σ G2 R2 H2 (E.step st)
  refine fun pos pins s I => pt.run pos pins s σ H2 _ I (ht _ fun its fps vs G3 R3 H3 q3 s3 hn nd nw => ?_)
  refine kq _ fps _ _ _ _ q3 (st.trans s3) (.consD (Dd.mono s3.gg _ _ dd) hn) nd fun a ha => ?_
  obtain ⟨n1, n2⟩ := nw a ha
  exact ⟨none_of_dom (fun b o z => st.dom b o z) n1, n2⟩
theorem wns_own (h : WF S e ρ fun xs => WNs S es ρ fun its => Q (.inr xs :: its)) (hs : ∀ env, starEach (e :: es) env = (false, eval e env) :: starEach es env := by intro _; rfl) : WNs S (e :: es) ρ Q := by
  intro X f H0 σ G R H E
  refine ⟨_, pa_cons pe_U pa_U (hs _), fun QV kq => h X f H0 σ G R H E _ fun ds ws p G2 R2 H2 q st hp dd => ?_⟩
  obtain ⟨f0, fg, fr⟩ := st.free hp
  have st2 := st.off (o := .lst ws) f0 fg fr
  obtain ⟨t, pt, ht⟩ := q X f H0 σ G2 R2 _ (E.step st2)
  refine fun pos pins s I => pt.run pos pins s σ _ _ I (ht _ fun its fps vs G3 R3 H3 q3 s3 hn nd nw => ?_)
  obtain ⟨c1, c2, c3⟩ := s3.apart upd_same fg fr
  refine kq _ (p :: fps) _ _ _ _ q3 (st2.trans s3) ⟨rfl, ⟨ws, c1, DdAll.mono s3.gg _ _ dd⟩, hn⟩ (List.nodup_cons.mpr ⟨fun z => ?_, nd⟩) fun a ha => ?_
  · have := (nw p z).1
    rw [upd_same] at this
    cases this
  · rcases List.mem_cons.mp ha with rfl | ha
    · exact ⟨f0, c2, c3, _, c1⟩
    · obtain ⟨n1, n2⟩ := nw a ha
      exact ⟨none_of_dom (fun b o z => st2.dom b o z) n1, n2⟩
theorem wn_list (h : WNs S es ρ fun its => its.length ≤ sizeLine ∧ Q its) : WN S (.List es pos) ρ Q := by
  intro X f H0 σ G R H E QV kq
  obtain ⟨t, pt, ht⟩ := h X f H0 σ G R H E
  refine WE.by (pe_lst pt) (ht _ fun its fps vs G2 R2 H2 q st hn nd nw => ⟨by rw [hn.len]; exact q.1, fun l hl => ?_⟩)
  obtain ⟨f0, fg, fr⟩ := st.free hl
  have nl : ∀ a ∈ fps, a ≠ l := fun a ha z => by obtain ⟨_, _, _, u, e⟩ := nw a ha; rw [z, hl] at e; cases e
  refine kq its (l :: fps) (.ref l) G2 R2 _ q.2 (st.off f0 fg fr) ⟨vs, fps, rfl, List.nodup_cons.mpr ⟨fun z => nl l z rfl, nd⟩, upd_same, NstAll.mono (Same.refl _) _ _ _ (fun a ha => upd_ne (nl a ha)) hn⟩ fun a ha => ?_
  rcases List.mem_cons.mp ha with rfl | ha
  · exact ⟨f0, fg, fr, _, upd_same⟩
  · obtain ⟨n1, n2, n3, u, n4⟩ := nw a ha
    exact ⟨n1, n2, n3, u, by rw [upd_ne (nl a ha)]; exact n4⟩
/-- name = a new list of lists -/
theorem w1_setN (i : Nat) (h : WN S e ρ fun its => ∀ as, R (.nx (ρ.set i (some (.obj (.nst as its)))))) (hN : S.N[i]? = some x) (hl : L2.Loc S.sc x) (hf : S.fn x = true ∨ S.sc.names.lookup x = some .local) (hs : ∀ env, swapsWith e (some (.Name x p)) pos.line env = pure false := by intro _; rfl) :
    W1 S (.Assign [.Name x p] e pos) ρ R := by
  intro X f G0 R0 H0 σ G Rr H s0 E D ok
  refine W1.by (ps_set (i := i) f.nd (by rw [f.N]; exact hN) (by unfold L2.Loc; rw [f.sc]; exact hl) pe_U (hs _) (hf.elim (fun z => .inl (f.fn _ z)) (fun z => .inr (by rw [f.sc]; exact z)))) ?_
  refine h X f H0 σ G Rr H E _ fun its as v G2 R2 H2 r st ho nw => ?_
  exact ok.nx _ _ _ _ _ (r as) (s0.trans st) ((E.step st).put i ho (ho.free_nst fun a ha => ⟨(nw a ha).free (fun b o z => s0.dom b o z), E.beside (nw a ha).1⟩))
/-- a, b = a new list of lists, data -/
theorem w1_parND (i j : Nat) {kt k2 : Nat} {pt pt2 : Pos} (h : WN S a ρ fun its => WE S b ρ fun d => ∀ as, R (.nx ((ρ.set i (some (.obj (.nst as its)))).set j (some (.dat d))))) (hN : S.N[i]? = some x) (hN' : S.N[j]? = some y) (hij : i ≠ j)
    (hl : S.sc.names.lookup x = some .local) (hl' : S.sc.names.lookup y = some .local)
    (hw : ∀ env : Env, env.scope = S.sc → swappedStores [.Tuple [.Name x px, .Name y py] kt pt] (.Tuple [a, b] k2 pt2) env = pure (some [x, y]))
    (hs : ∀ env, swapsWithSole [.Tuple [.Name x px, .Name y py] kt pt] (.Tuple [a, b] k2 pt2) pos.line env = pure false := by intro _; rfl)
    (he : ∀ env, starEach [a, b] env = (false, eval a env) :: starEach [b] env := by intro _; rfl) (he2 : ∀ env, starEach [b] env = (false, eval b env) :: starEach [] env := by intro _; rfl) :
    W1 S (.Assign [.Tuple [.Name x px, .Name y py] kt pt] (.Tuple [a, b] k2 pt2) pos) ρ R := by
  intro X f G0 R0 H0 σ G Rr H s0 E D ok
  refine W1.by (ps_par (i := i) (j := j) f.calm f.nd (by rw [f.N]; exact hN) (by rw [f.N]; exact hN') hij (by rw [f.sc]; exact hl) (by rw [f.sc]; exact hl') (pa_cons pe_U (pa_cons pe_U pa_nil (he2 _)) (he _)) (hw _ f.sc) (hs _)) ?_
  refine h X f H0 σ G Rr H E _ fun its as v G2 R2 H2 hb st ho nw => hb X f H0 σ G2 R2 H2 (E.step st) _ fun d u G3 R3 H3 r st3 dd => ?_
  have fr : ∀ a ∈ as, Free H0 G2 R2 H2 a := fun a ha => (nw a ha).free fun b o z => s0.dom b o z
  have s3 := s0.trans (st.trans st3)
  have ho3 : OwnAt G3 H3 (.nst as its) v := OwnAt.mono st3.gg (ho.free_nst fun a ha => (st3.free1 (fr a ha)).2) ho
  have E3 := ((E.step st).step st3).put i ho3 (ho3.free_nst fun a ha => ⟨(st3.free1 (fr a ha)).1, E.beside (nw a ha).1⟩)
  exact ⟨v, u, rfl, ok.nx _ _ _ _ _ (r as) s3 (E3.setD j dd)⟩
def flatI : PyData ⊕ List PyData → Bool
  | .inl d => flatD d
  | .inr xs => flatAll xs
theorem NstAll.cutF {G H : Hp} {fp : List Addr} (nt : ∀ a ∈ fp, ∀ vs, G a ≠ some (.tup vs)) : ∀ {its : List (PyData ⊕ List PyData)} {vs : List V} {fps : List Addr}, its.all flatI = true → NstAll G H vs its fps → NstAll (cutH G fp) H vs its fps
  | [], [], [], _, _ => trivial
  | .inl d :: its, v :: vs, fps, f, h => by
    have h : Dd G v d ∧ NstAll G H vs its fps := by cases fps <;> exact h
    obtain ⟨f1, f2⟩ := Bool.and_eq_true_iff.mp (show (flatD d && its.all flatI) = true from f)
    exact .consD (Dd.cutF nt _ _ f1 h.1) (NstAll.cutF nt f2 h.2)
  | .inr xs :: its, v :: vs, p :: fps, f, h => by
    obtain ⟨f1, f2⟩ := Bool.and_eq_true_iff.mp (show (flatAll xs && its.all flatI) = true from f)
    obtain ⟨h1, ⟨ws, h2, h3⟩, h4⟩ := h
    exact ⟨h1, ⟨ws, h2, DdAll.cutF nt _ _ f1 h3⟩, NstAll.cutF (its := its) (vs := vs) nt f2 h4⟩
theorem wn_lendO (i : Nat) (hr : ρ[i]? = some (some (.obj o))) (h : WN S e (ρ.set i (some (.dat dO))) fun its => its.all flatI = true ∧ Q its) (hd : ownD o = some dO := by rfl) : WN S e ρ Q := by
  intro X f H0 σ G R H E QV kq
  obtain ⟨fp, E2, hg⟩ := E.lendO hd hr
  refine h X f H0 σ _ R H E2 QV fun its as v G3 R3 H3 q s ho nw => ?_
  obtain ⟨s2, nt⟩ := s.backO hg
  refine kq its as v _ R3 H3 q.2 s2 ?_ fun a ha => ?_
  · cases v with
    | ref l =>
      obtain ⟨vs, fps, e, nd, h1, h2⟩ := ho
      exact ⟨vs, fps, e, nd, h1, h2.cutF nt q.1⟩
    | _ => exact ho.elim
  · obtain ⟨n1, n2, n3⟩ := nw a ha
    refine ⟨n1, ?_, n3⟩
    by_cases z : a ∈ fp
    · exact cutH_in z
    · rw [cutH_out z]; exact n2
abbrev WpN := List SV → (List (PyData ⊕ List PyData) → Prop) → Prop
def spVN (K : PySem.W.Frag) (W : WpN) : Sp := fun vs H Q _ => ∃ (G R : Hp) (as : List SV) (Q0 : List (PyData ⊕ List PyData) → Prop), Wd G R H ∧ ArgsR K G R vs as ∧ W as Q0 ∧
  ∀ its fas v G2 R2 H2, Q0 its → Stp G R H G2 R2 H2 → OwnAt G2 H2 (.nst fas its) v → (∀ a ∈ fas, New H G2 R2 H2 a) → Q v H2
structure HasN (P : Program) (w : World) (K : PySem.W.Frag) (mg : Str → Option Value) (base : Heap) (x : Str) (k : Nat) (W : WpN) : Prop where
  ex : ∃ (f : Addr) (fd : FuncData) (ps : List Str), mg x = some (.ref f) ∧ PySem.W.keepIn K (.ref f) = true ∧ Binds K fd ps [] ∧ Gok P w K mg base CX0 k f fd ps (spVN K W)
abbrev Sta.hasN (S : Sta) (x : Str) (k : Nat) (W : WpN) : Prop := HasN S.P S.w S.K S.mg S.base x k W
theorem wn_call {k : Nat} {W : WpN} (F : S.hasN x k W) (hk : k ≤ S.k) (h : WG S (e :: es) ρ fun as => W as Q) (hg : Gb S x := by rfl)
    (hdb : (x == ("__debug__" : Str)) = false := by decide) (he : ∀ env, starEach (e :: es) env = (false, eval e env) :: starEach es env := by intro _; rfl)
    (hpl : ∀ env, (backTo pos (starEach es env)).any (·.1) = false := by intro _; rfl) : WN S (.Call (.Name x p) (e :: es) [] pos) ρ Q := by
  intro X f H0 σ G R H E QV kq
  obtain ⟨g, fd, ps, hm, kp, hb, ok⟩ := F.ex
  obtain ⟨t, pt, ht⟩ := h X f H0 σ G R H E
  refine WE.by (pe_callG (E := E0) f.gd (gok_fits f ok) (f.room.mono hk) (gb_of f hg) (by rw [f.mg]; exact hm) (by rw [f.K]; exact kp) (by rw [f.K]; exact hb) .nil pass0 pt hdb (he _) (hpl _)) ?_
  refine ht _ fun as vs G2 R2 H2 q st r => ?_
  rw [List.append_nil]
  show spVN S.K W vs H2 QV E0
  refine ⟨G2, R2, as, Q, st.wd, r, q, fun its fas v G3 R3 H3 q3 s3 ho nw => kq its fas v _ _ _ q3 (st.trans s3) ho fun a ha => ?_⟩
  obtain ⟨n1, n2⟩ := nw a ha
  exact ⟨none_of_dom (fun b o z => st.dom b o z) n1, n2⟩
/-- as data -/
theorem we_callN {k : Nat} {W : WpN} {Q : PyData → Prop} (F : S.hasN x k W) (hk : k ≤ S.k) (h : WG S (e :: es) ρ fun as => W as fun its => Q (.list (its.map itD))) (hg : Gb S x := by rfl)
    (hdb : (x == ("__debug__" : Str)) = false := by decide) (he : ∀ env, starEach (e :: es) env = (false, eval e env) :: starEach es env := by intro _; rfl)
    (hpl : ∀ env, (backTo pos (starEach es env)).any (·.1) = false := by intro _; rfl) : WE S (.Call (.Name x p) (e :: es) [] pos) ρ Q := by
  intro X f H0 σ G R H E QV kq
  refine wn_call F hk h hg hdb he hpl X f H0 σ G R H E QV fun its as v G2 R2 H2 q st ho nw => ?_
  have fr : ∀ a ∈ foot (.nst as its) v, Free H G2 R2 H2 a := ho.free_nst fun a ha => (nw a ha).free fun b o z => ⟨o, z⟩
  exact kq _ v _ _ _ q (st.layO fr) (OwnAt.dd (o := .nst as its) (joinH_same fun a ha => (fr a ha).1) rfl (fun a ha => joinH_in ha) ho)
/-- return a new list of lists -/
theorem w1_retN' (h : WN S e ρ fun its => ∀ as, R (.rn as its)) : W1 S (.Return (some e) pos) ρ R := by
  intro X f G0 R0 H0 σ G Rr H s0 E D ok
  exact W1.by (ps_ret pe_U) (h X f H0 σ G Rr H E _ fun its as v G2 R2 H2 r st ho nw => ok.rn _ _ _ _ _ _ (r as) (s0.trans st) ho fun a ha => (nw a ha).free fun b o z => s0.dom b o z)
/-- return xs + [..], xs a list of lists of the def's own -/
theorem w1_retCatN (i : Nat) {as : List Addr} {its : List (PyData ⊕ List PyData)} {p2 p3 : Pos} (hr : ρ[i]? = some (some (.obj (.nst as its)))) (h : WNs S es ρ fun its2 => its2.length ≤ sizeLine ∧ its.length + its2.length ≤ sizeLine ∧ ∀ as2, R (.rn as2 (its ++ its2)))
    (hN : S.N[i]? = some x) (hv : Vis S.sc x) (hd : (x == ("__debug__" : Str)) = false := by decide) (hcd : (x == ("__classdict__" : Str)) = false := by decide) : W1 S (.Return (some (.BinOp (.Name x p) .Add (.List es p2) p3)) pos) ρ R := by
  intro X f G0 R0 H0 σ G Rr H s0 E D ok
  obtain ⟨t, pt, ht⟩ := h X f H0 σ G Rr H E
  refine W1.by (ps_ret (pe_op op_cat (pe_var (i := i) (by rw [f.N]; exact hN) (by rw [f.sc]; exact hv) hd hcd) (pe_lst pt))) ?_
  obtain ⟨v, e1, ho, fr⟩ := obj_at E hr
  cases v with
  | ref l =>
    refine ⟨.ref l, e1, ht _ fun its2 fps2 vs2 G2 R2 H2 q st hn nd nw => ⟨by rw [hn.len]; exact q.1, fun l2 hl2 => ?_⟩⟩
    obtain ⟨f0, fg, fr2⟩ := (s0.trans st).free hl2
    have fr' : ∀ a ∈ as, Free H0 G Rr H a := fr
    have st2 := st.off (o := .lst vs2) (st.free hl2).1 fg fr2
    have ho2 : OwnAt G2 (upd H2 l2 (.lst vs2)) (.nst as its) (.ref l) := OwnAt.mono st2.gg (fun a ha => (st2.free1 (fr a ha)).2) ho
    obtain ⟨vs, fps, ea, nda, h1, h2⟩ := ho2
    have nl2 : ∀ a ∈ fps2, a ≠ l2 := fun a ha z => by obtain ⟨_, _, _, u, e⟩ := nw a ha; rw [z, hl2] at e; cases e
    have hn2 : NstAll G2 (upd H2 l2 (.lst vs2)) vs2 its2 fps2 := NstAll.mono (Same.refl _) _ _ _ (fun a ha => upd_ne (nl2 a ha)) hn
    refine ⟨l, l2, vs, vs2, rfl, rfl, h1, upd_same, by rw [h2.len, hn.len]; exact q.2.1, fun l3 hl3 => ?_⟩
    have s3 := s0.trans st2
    obtain ⟨g0, gg, gr⟩ := s3.free hl3
    have fra : ∀ a ∈ as, Free H0 G2 R2 (upd H2 l2 (.lst vs2)) a := fun a ha => (st2.free1 (fr' a ha)).1
    have frb : ∀ a ∈ fps2, Free H0 G2 R2 (upd H2 l2 (.lst vs2)) a := fun a ha => by
      obtain ⟨n1, n2, n3, u, n4⟩ := nw a ha
      exact ⟨n2, n3, none_of_dom (fun b o z => s0.dom b o z) n1, u, by rw [upd_ne (nl2 a ha)]; exact n4⟩
    have ne : ∀ a, (a ∈ fps ∨ a ∈ fps2) → a ≠ l3 := fun a ha z => by
      have : ∃ u, (upd H2 l2 (.lst vs2)) a = some u := ha.elim (fun q => (fra a (by rw [ea]; exact List.mem_cons_of_mem _ q)).2.2.2) fun q => (frb a q).2.2.2
      obtain ⟨u, y⟩ := this
      rw [z, hl3] at y
      cases y
    refine ok.rn (l3 :: (fps ++ fps2)) (its ++ its2) (.ref l3) G2 R2 _ (q.2.2 _) (s3.off g0 gg gr) ⟨vs ++ vs2, fps ++ fps2, rfl, ?_, upd_same, ?_⟩ fun a ha => ?_
    · refine List.nodup_cons.mpr ⟨fun z => ne l3 (List.mem_append.mp z) rfl, List.nodup_append.mpr ⟨?_, nd, fun a ha b hb e => ?_⟩⟩
      · rw [ea] at nda
        exact (List.nodup_cons.mp nda).2
      · subst e
        have n1 := (nw a hb).1
        obtain ⟨_, _, _, u, y⟩ := fr' a (by rw [ea]; exact List.mem_cons_of_mem _ ha)
        rw [n1] at y
        cases y
    · exact NstAll.app (NstAll.mono (Same.refl _) _ _ _ (fun a ha => upd_ne (ne a (.inl ha))) h2) (NstAll.mono (Same.refl _) _ _ _ (fun a ha => upd_ne (ne a (.inr ha))) hn2)
    · rcases List.mem_cons.mp ha with rfl | ha
      · exact ⟨gg, gr, g0, _, upd_same⟩
      · obtain ⟨k1, k2, k3, u, k4⟩ : Free H0 G2 R2 (upd H2 l2 (.lst vs2)) a := (List.mem_append.mp ha).elim (fun q => fra a (by rw [ea]; exact List.mem_cons_of_mem _ q)) fun q => frb a q
        exact ⟨k1, k2, k3, u, by rw [upd_ne (ne a (List.mem_append.mp ha))]; exact k4⟩
  | _ => exact ho.elim
end
def endN (Q : List (PyData ⊕ List PyData) → Prop) : Out → Prop
  | .rn _ its => Q its
  | _ => False
section
variable {P : Program} {w : World} {K : PySem.W.Frag} {mg : Str → Option Value} {base : Heap}
theorem hasN_fun {x qual : Str} {st : Stmt} {f : Addr} {fd : FuncData} {N ps : List Str} {k : Nat} (W : WpN) (F : Fun K x qual st f fd) (hm : mg x = some (.ref f)) (b : Binds K fd ps []) (Sc : FnScope N ps (defScope st)) (sys : SysAt base)
    (hlen : ∀ as Q, W as Q → as.length = ps.length) (hb : ∀ as Q, W as Q → WS ⟨P, w, K, mg, base, N, defScope st, fun _ => true, k⟩ (defBody st) (startR N as) (endN Q)) : HasN P w K mg base x (k + 1) W := by
  refine ⟨f, fd, ps, hm, F.kp, b, ?_⟩
  obtain ⟨oc, od, kV, doc, pm, an, cdv, ct, osl, rfl, lk, hcd⟩ := F.ex
  refine g_of lk hcd Sc (fun vs H Q E h => ?_) fun B above t H vs Q E hg hr h => ?_
  · obtain ⟨G, R, as, Q0, wd, r, hW, _⟩ := h
    rw [r.len]
    exact hlen as Q0 hW
  · obtain ⟨G, R, as, Q0, wd, r, hW, k0⟩ := h
    let X : Cx := (cxOf CX0 P w K mg base N qual (defScope st) f cdv B above t H E).nox
    have ft : Fits ⟨P, w, K, mg, base, N, defScope st, fun _ => true, k⟩ X := ⟨rfl, rfl, rfl, rfl, rfl, rfl, rfl, fun _ h => h, rfl, hg, hr, sys, Sc.nd, rfl⟩
    refine ⟨tUS X (defBody st), (pss_U (X := X)).nox, hb as Q0 hW X ft G R H (L2.start N vs) G R H (Stp.refl wd) (env_start wd r) _ ⟨fun ρ σ G2 R2 H2 q s _ => q.elim, fun d v G2 R2 H2 q s dd => q.elim, fun _ _ _ _ _ q _ _ => q.elim, fun _ _ _ _ _ q _ _ => q.elim, fun xs l vs G2 R2 H2 q => q.elim, fun as its v G2 R2 H2 q s ho fr => k0 _ _ _ _ _ _ q s ho fun a ha => ?_⟩⟩
    obtain ⟨k1, k2, k3, k4⟩ := fr a ha
    exact ⟨k3, k1, k2, k4⟩
end
end Tee

/-! part S: pairs, triples unpacked; pop, extend, count; lists of lists changed -/
namespace Tee
open PySem PySem.Spec PyProof.Rows L2
section
variable {S : Sta} {ρ : Rho} {R : Out → Prop} {a b c e iter tg : Expr} {es rest : List Expr} {x y z : Str} {p px py pz pos : Pos} {o : OwnO} {dO : PyData}
theorem DdAll.two {G : Hp} {vs : List V} {a b : PyData} (h : DdAll G vs [a, b]) : ∃ x y, vs = [x, y] ∧ Dd G x a ∧ Dd G y b := by
  cases h with
  | cons h1 t =>
    cases t with
    | cons h2 t =>
      cases t
      exact ⟨_, _, rfl, h1, h2⟩
theorem DdAll.three {G : Hp} {vs : List V} {a b c : PyData} (h : DdAll G vs [a, b, c]) : ∃ x y z, vs = [x, y, z] ∧ Dd G x a ∧ Dd G y b ∧ Dd G z c := by
  cases h with
  | cons h1 t =>
    obtain ⟨y, z, rfl, h2, h3⟩ := t.two
    exact ⟨_, _, _, rfl, h1, h2, h3⟩
theorem wtg_pairI (i j : Nat) {kt : Nat} {d d1 d2 : PyData} {K : Rho → Prop} (hd : d = .list [d1, d2] ∨ d = .tuple [d1, d2]) (hN : S.N[i]? = some x) (hl : L2.Loc S.sc x) (hf : S.fn x = true ∨ S.sc.names.lookup x = some .local)
    (hN' : S.N[j]? = some y) (hl' : L2.Loc S.sc y) (hf' : S.fn y = true ∨ S.sc.names.lookup y = some .local) (k : K ((ρ.set i (some (.dat d1))).set j (some (.dat d2)))) : WTg S (.Tuple [.Name x p, .Name y py] kt pos) [i, j] ρ d K := by
  rcases hd with rfl | rfl
  · intro X f H0 σ G R H E v dd Qσ kq pins s u I r
    have g1 := pg_name (X := X) (pos := p) (i := i) f.nd (by rw [f.N]; exact hN) (by unfold L2.Loc; rw [f.sc]; exact hl) (hf.elim (fun z => .inl (f.fn _ z)) (fun z => .inr (by rw [f.sc]; exact z)))
    have g2 := pg_name (X := X) (pos := py) (i := j) f.nd (by rw [f.N]; exact hN') (by unfold L2.Loc; rw [f.sc]; exact hl') (hf'.elim (fun z => .inl (f.fn _ z)) (fun z => .inr (by rw [f.sc]; exact z)))
    cases dd with
    | @lst l vs _ h q =>
      obtain ⟨v1, v2, rfl, q1, q2⟩ := q.two
      refine (pg_unl f.calm (pgs_cons g1 (pgs_cons g2 pgs_nil))).run pins s σ H _ u Qσ I r ⟨l, [v1, v2], rfl, SqL.of (E.wd.gh _ _ h), rfl, v1, [v2], rfl, v2, [], rfl, rfl, ?_⟩
      exact kq _ _ k ((E.setD i q1).setD j q2) ((offS_set (by simp)).trans (offS_set (by simp)))
  · exact wtg_pair i j hN hl hf hN' hl' hf' k
theorem wtg_triple (i j l : Nat) {kt : Nat} {d1 d2 d3 : PyData} {K : Rho → Prop} (hN : S.N[i]? = some x) (hl : L2.Loc S.sc x) (hf : S.fn x = true ∨ S.sc.names.lookup x = some .local)
    (hN' : S.N[j]? = some y) (hl' : L2.Loc S.sc y) (hf' : S.fn y = true ∨ S.sc.names.lookup y = some .local) (hN2 : S.N[l]? = some z) (hl2 : L2.Loc S.sc z) (hf2 : S.fn z = true ∨ S.sc.names.lookup z = some .local)
    (k : K (((ρ.set i (some (.dat d1))).set j (some (.dat d2))).set l (some (.dat d3)))) : WTg S (.Tuple [.Name x p, .Name y py, .Name z pz] kt pos) [i, j, l] ρ (.tuple [d1, d2, d3]) K := by
  intro X f H0 σ G R H E v dd Qσ kq pins s u I r
  have g1 := pg_name (X := X) (pos := p) (i := i) f.nd (by rw [f.N]; exact hN) (by unfold L2.Loc; rw [f.sc]; exact hl) (hf.elim (fun z => .inl (f.fn _ z)) (fun z => .inr (by rw [f.sc]; exact z)))
  have g2 := pg_name (X := X) (pos := py) (i := j) f.nd (by rw [f.N]; exact hN') (by unfold L2.Loc; rw [f.sc]; exact hl') (hf'.elim (fun z => .inl (f.fn _ z)) (fun z => .inr (by rw [f.sc]; exact z)))
  have g3 := pg_name (X := X) (pos := pz) (i := l) f.nd (by rw [f.N]; exact hN2) (by unfold L2.Loc; rw [f.sc]; exact hl2) (hf2.elim (fun z => .inl (f.fn _ z)) (fun z => .inr (by rw [f.sc]; exact z)))
  cases dd with
  | @tup t vs _ h q =>
    obtain ⟨v1, v2, v3, rfl, q1, q2, q3⟩ := q.three
    refine (pg_tup f.calm (pgs_cons g1 (pgs_cons g2 (pgs_cons g3 pgs_nil)))).run pins s σ H _ u Qσ I r ⟨t, [v1, v2, v3], rfl, SqT.of (E.wd.gh _ _ h), rfl, v1, [v2, v3], rfl, v2, [v3], rfl, v3, [], rfl, rfl, ?_⟩
    exact kq _ _ k (((E.setD i q1).setD j q2).setD l q3) (((offS_set (by simp)).trans (offS_set (by simp))).trans (offS_set (by simp)))
/-! ### expressions that change a list of the def's own -/
def WX (S : Sta) (e : Expr) (ρ : Rho) (Q : PyData → Rho → Prop) : Prop :=
  ∀ X, Fits S X → ∀ G0 R0 H0 σ G Rr H, Stp G0 R0 H0 G Rr H → EnvR S.K H0 ρ σ G Rr H → ∀ QV : VK, (∀ d v ρ' G2 R2 H2, Q d ρ' → Stp G0 R0 H0 G2 R2 H2 → EnvR S.K H0 ρ' σ G2 R2 H2 → Dd G2 v d → QV v H2) → tU X e σ H QV
theorem wx_we {Q : PyData → Rho → Prop} (h : WE S e ρ fun d => Q d ρ) : WX S e ρ Q := fun X f G0 R0 H0 σ G Rr H s0 E QV kq => h X f H0 σ G Rr H E QV fun d v G2 R2 H2 q st dd => kq d v ρ G2 R2 H2 q (s0.trans st) (E.step st) dd
theorem DdAll.dropLast {G : Hp} : ∀ {vs : List V} {ds : List PyData}, DdAll G vs ds → DdAll G vs.dropLast ds.dropLast
  | _, _, .nil => .nil
  | _, _, .cons _ .nil => .nil
  | _, _, .cons h (.cons h2 t) => .cons h (DdAll.dropLast (.cons h2 t))
/-- xs.pop() -/
theorem wx_pop (i : Nat) {xs : List PyData} {d : PyData} {pa pc : Pos} {Q : PyData → Rho → Prop} (hr : ρ[i]? = some (some (.own xs))) (hl : xs[xs.length - 1]? = some d) (q : Q d (ρ.set i (some (.own xs.dropLast))))
    (hN : S.N[i]? = some x) (hv : Vis S.sc x) (hd : (x == ("__debug__" : Str)) = false := by decide) (hcd : (x == ("__classdict__" : Str)) = false := by decide)
    (hbase : ∀ env, attributeBase (.Name x px) "pop" env (eval (.Name x px) env) = eval (.Name x px) env := by intro _; rfl) (hline : (pa.endLine == pc.line) = true := by rfl) :
    WX S (.Call (.Attribute (.Name x px) "pop" pa) [] [] pc) ρ Q := by
  intro X f G0 R0 H0 σ G Rr H s0 E QV kq
  refine WE.by (pe_bm0 PySem.F.plainAttrs_list PySem.F.slot_list_pop PySem.F.type_list_pop mt_pop (pe_var (i := i) (by rw [f.N]; exact hN) (by rw [f.sc]; exact hv) hd hcd) (hbase _) hline) ?_
  obtain ⟨l, vs, e1, h1, h2, h3, h4, h5⟩ := own_at E hr
  obtain ⟨v, ev, dv⟩ := h5.get hl
  refine ⟨.ref l, e1, .inl ⟨rfl, _, SqL.of h1⟩, l, vs, v, rfl, rfl, h1, by rw [h5.len]; exact ev, ?_⟩
  exact kq d v _ G Rr _ q (s0.off h4 h2 h3) (E.chg hr e1 h5.dropLast) dv
theorem DdAll.eraseI {G : Hp} : ∀ (k : Nat) {vs : List V} {ds : List PyData}, DdAll G vs ds → DdAll G (vs.eraseIdx k) (ds.eraseIdx k)
  | _, _, _, .nil => .nil
  | 0, _, _, .cons _ t => t
  | k + 1, _, _, .cons h t => .cons h (DdAll.eraseI k t)
/-- xs.pop(e) -/
theorem wx_popAt (i : Nat) {xs : List PyData} {pa pc : Pos} {Q : PyData → Rho → Prop} (hr : ρ[i]? = some (some (.own xs))) (h : WE S e ρ fun dk => ∃ (k : Nat) (d : PyData), dk = .int (k : Int) ∧ xs.length ≤ 1000000 ∧ xs[k]? = some d ∧ Q d (ρ.set i (some (.own (xs.eraseIdx k)))))
    (hN : S.N[i]? = some x) (hv : Vis S.sc x) (hd : (x == ("__debug__" : Str)) = false := by decide) (hcd : (x == ("__classdict__" : Str)) = false := by decide)
    (he : ∀ env, starEach [e] env = (false, eval e env) :: starEach [] env := by intro _; rfl)
    (hfew : ∀ env, ((backTo pc (starEach [e] env)).all (fun x => !x.1) && (backToKw pc (keywordEach [] env)).all (fun x => x.1.isSome)
      && decide ([e].length + ([] : List Keyword).length + (if ([] : List Keyword).isEmpty then 0 else 1) < 30)) = true := by intro _; rfl)
    (hbase : ∀ env, attributeBase (.Name x px) "pop" env (eval (.Name x px) env) = eval (.Name x px) env := by intro _; rfl) (hline : (pa.endLine == pc.line) = true := by rfl) :
    WX S (.Call (.Attribute (.Name x px) "pop" pa) [e] [] pc) ρ Q := by
  intro X f G0 R0 H0 σ G Rr H s0 E QV kq
  refine WE.by (pe_bm PySem.F.plainAttrs_list PySem.F.slot_list_pop PySem.F.type_list_pop mt_popAt (pe_var (i := i) (by rw [f.N]; exact hN) (by rw [f.sc]; exact hv) hd hcd) (pa_cons pe_U pa_nil (he _)) (hbase _) (hfew _) hline (he _) (by rfl)) ?_
  obtain ⟨l, vs, e1, h1, h2, h3, h4, h5⟩ := own_at E hr
  refine ⟨.ref l, e1, .inl ⟨rfl, _, SqL.of h1⟩, h X f H0 σ G Rr H E _ fun dk v G2 R2 H2 ⟨k, d, ek, hz, hk, q⟩ st dd => ?_⟩
  subst ek
  cases dd
  obtain ⟨k1, k2, k3⟩ := st.apart h1 h2 h3
  obtain ⟨u, eu, du⟩ := h5.get hk
  have hkl : k < vs.length := (List.getElem?_eq_some_iff.mp eu).1
  have E2 := E.step st
  have hvl := h5.len
  refine ⟨l, vs, (k : Int), k, u, rfl, rfl, k1, by omega, by omega, ?_, eu, ?_⟩
  · exact (ixN_seq (show ixN vs.length (k : Int) = some k by unfold ixN; rw [if_pos (by omega), if_pos (by omega), Int.toNat_natCast])).1
  · exact kq d u _ G2 R2 _ q ((s0.trans st).off h4 k2 k3) (E2.chg hr e1 (DdAll.eraseI k (DdAll.mono st.gg _ _ h5))) (Dd.mono st.gg _ _ du)
/-- e[k], k written -/
theorem wx_ixc {k : Int} {u : Nat} {pk : Pos} {Q : PyData → Rho → Prop} (h : WX S e ρ fun da ρ' => IxD da (.int k) fun d => Q d ρ') (hs : PlainIx (.Constant (.int k) u pk) := by exact fun _ _ => rfl) : WX S (.Subscript e (.Constant (.int k) u pk) pos) ρ Q := by
  intro X f G0 R0 H0 σ G Rr H s0 E QV kq pins s I
  refine (pe_ix (r := fun x y H Q' => rIxL X.K x y H Q' ∨ rIxT X.K x y H Q') (ix_list.or ix_tup) pe_U pe_int hs).run pins s σ H QV I (h X f G0 R0 H0 σ G Rr H s0 E _ fun da v ρ' G2 R2 H2 q s2 E2 dd => ?_)
  have o1 : Od G2 R2 H2 v da := .dd dd
  replace q : IxD da (.int k) (fun d => Q d ρ') := q
  unfold IxD at q
  split at q
  · rename_i heq
    obtain ⟨d, e, q⟩ := q
    cases heq
    obtain ⟨l, vs, rfl, h1, r, _⟩ := o1.list E2.wd
    obtain ⟨z, e1, dz⟩ := r.ix e
    exact .inl ⟨l, vs, _, z, rfl, rfl, SqL.of h1, e1, kq _ _ _ _ _ _ q s2 E2 dz⟩
  · rename_i heq
    obtain ⟨d, e, q⟩ := q
    cases heq
    obtain ⟨l, vs, rfl, h1, r, _⟩ := o1.tup E2.wd
    obtain ⟨z, e1, dz⟩ := r.ix e
    exact .inr ⟨l, vs, _, z, rfl, rfl, SqT.of h1, e1, kq _ _ _ _ _ _ q s2 E2 dz⟩
  · exact q.elim
/-- n + e -/
theorem wx_plusL {n : Int} {u : Nat} {pk : Pos} {Q : PyData → Rho → Prop} (h : WX S b ρ fun db ρ' => ∃ j, db = .int j ∧ Q (.int (n + j)) ρ') : WX S (.BinOp (.Constant (.int n) u pk) .Add b pos) ρ Q := by
  intro X f G0 R0 H0 σ G Rr H s0 E QV kq pins s I
  refine (pe_op op_add pe_int pe_U).run pins s σ H QV I (h X f G0 R0 H0 σ G Rr H s0 E _ fun db v ρ' G2 R2 H2 ⟨j, ej, q⟩ s2 E2 dd => ?_)
  subst ej
  cases dd
  exact ⟨n, j, rfl, rfl, kq _ _ _ _ _ _ q s2 E2 (.int _)⟩
theorem w1_setX (i : Nat) (h : WX S e ρ fun d ρ' => R (.nx (ρ'.set i (some (.dat d))))) (hN : S.N[i]? = some x) (hl : L2.Loc S.sc x) (hf : S.fn x = true ∨ S.sc.names.lookup x = some .local) (hs : ∀ env, swapsWith e (some (.Name x p)) pos.line env = pure false := by intro _; rfl) :
    W1 S (.Assign [.Name x p] e pos) ρ R := by
  intro X f G0 R0 H0 σ G Rr H s0 E D ok
  refine W1.by (ps_set (i := i) f.nd (by rw [f.N]; exact hN) (by unfold L2.Loc; rw [f.sc]; exact hl) pe_U (hs _) (hf.elim (fun z => .inl (f.fn _ z)) (fun z => .inr (by rw [f.sc]; exact z)))) ?_
  exact h X f G0 R0 H0 σ G Rr H s0 E _ fun d v ρ' G2 R2 H2 q s2 E2 dd => ok.nx _ _ _ _ _ q s2 (E2.setD i dd)
/-- xs.extend(e) -/
theorem w1_extend (i : Nat) {xs : List PyData} {pa pc : Pos} (hr : ρ[i]? = some (some (.own xs))) (h : WE S e ρ fun d => ∃ ys, d = .list ys ∧ xs.length + ys.length ≤ sizeLine ∧ R (.nx (ρ.set i (some (.own (xs ++ ys))))))
    (hN : S.N[i]? = some x) (hv : Vis S.sc x) (hd : (x == ("__debug__" : Str)) = false := by decide) (hcd : (x == ("__classdict__" : Str)) = false := by decide)
    (he : ∀ env, starEach [e] env = (false, eval e env) :: starEach [] env := by intro _; rfl)
    (hfew : ∀ env, ((backTo pc (starEach [e] env)).all (fun x => !x.1) && (backToKw pc (keywordEach [] env)).all (fun x => x.1.isSome)
      && decide ([e].length + ([] : List Keyword).length + (if ([] : List Keyword).isEmpty then 0 else 1) < 30)) = true := by intro _; rfl)
    (hbase : ∀ env, attributeBase (.Name x px) "extend" env (eval (.Name x px) env) = eval (.Name x px) env := by intro _; rfl) (hline : (pa.endLine == pc.line) = true := by rfl)
    (hsw : ∀ env, swapsWith (.Call (.Attribute (.Name x px) "extend" pa) [e] [] pc) none pos.line env = pure false := by intro _; rfl) :
    W1 S (.Expr (.Call (.Attribute (.Name x px) "extend" pa) [e] [] pc) pos) ρ R := by
  intro X f G0 R0 H0 σ G Rr H s0 E D ok
  refine W1.by (ps_expr (pe_bm PySem.F.plainAttrs_list PySem.F.slot_list_extend PySem.F.type_list_extend mt_extend (pe_var (i := i) (by rw [f.N]; exact hN) (by rw [f.sc]; exact hv) hd hcd) (pa_cons pe_U pa_nil (he _)) (hbase _) (hfew _) hline (he _) (by rfl)) (hsw _)) ?_
  obtain ⟨l, vs, e1, h1, h2, h3, h4, h5⟩ := own_at E hr
  refine ⟨.ref l, e1, .inl ⟨rfl, _, SqL.of h1⟩, h X f H0 σ G Rr H E _ fun d v G2 R2 H2 ⟨ys, ed, hz, q⟩ st dd => ?_⟩
  subst ed
  obtain ⟨k1, k2, k3⟩ := st.apart h1 h2 h3
  cases dd with
  | @lst b ws _ hb rb =>
    refine ⟨l, b, vs, ws, rfl, rfl, k1, st.wd.gh _ _ hb, by rw [h5.len, rb.len]; exact hz, ok.nx _ _ _ _ _ q ((s0.trans st).off h4 k2 k3) ((E.step st).chg hr e1 ((DdAll.mono st.gg _ _ h5).app rb))⟩
/-- xs.count(e), ints -/
theorem we_countI {pa pc : Pos} {Q : PyData → Prop} (h : WO S (.Name x px) ρ fun da => ∃ ns : List Int, da = .list (ns.map .int) ∧ WE S e ρ fun d => ∃ k : Int, d = .int k ∧ Q (.int ((ns.count k : Nat) : Int)))
    (he : ∀ env, starEach [e] env = (false, eval e env) :: starEach [] env := by intro _; rfl)
    (hfew : ∀ env, ((backTo pc (starEach [e] env)).all (fun x => !x.1) && (backToKw pc (keywordEach [] env)).all (fun x => x.1.isSome)
      && decide ([e].length + ([] : List Keyword).length + (if ([] : List Keyword).isEmpty then 0 else 1) < 30)) = true := by intro _; rfl)
    (hbase : ∀ env, attributeBase (.Name x px) "count" env (eval (.Name x px) env) = eval (.Name x px) env := by intro _; rfl) (hline : (pa.endLine == pc.line) = true := by rfl) :
    WE S (.Call (.Attribute (.Name x px) "count" pa) [e] [] pc) ρ Q := by
  intro X f H0 σ G R H E QV kq
  refine WE.by (pe_bm PySem.F.plainAttrs_list PySem.F.slot_list_count PySem.F.type_list_count mt_lcount pe_U (pa_cons pe_U pa_nil (he _)) (hbase _) (hfew _) hline (he _) (by rfl)) ?_
  refine h X f H0 σ G R H E _ fun da v G2 R2 H2 q st o => ?_
  obtain ⟨ns, rfl, q⟩ := q
  obtain ⟨l, vs, rfl, h1, r, hrn⟩ := o.list st.wd
  have ev := DdAll.intsV ns r
  subst ev
  refine ⟨.inl ⟨rfl, _, SqL.of h1⟩, q X f H0 σ G2 R2 H2 (E.step st) _ fun d u G3 R3 H3 ⟨k, ed, q⟩ st3 dd => ?_⟩
  subst ed
  cases dd
  exact ⟨l, ns, k, rfl, rfl, SqL.of (st3.keep _ _ hrn h1), kq _ _ _ _ _ q (st.trans st3) (.int _)⟩
/-! ### lists of lists are changed -/
theorem NstAll.at {G H : Hp} : ∀ {its : List (PyData ⊕ List PyData)} {vs : List V} {fps : List Addr} {k : Nat} {xs : List PyData}, NstAll G H vs its fps → fps.Nodup → its[k]? = some (.inr xs) →
    ∃ p ws, vs[k]? = some (.ref p) ∧ p ∈ fps ∧ H p = some (.lst ws) ∧ DdAll G ws xs ∧ ∀ ys us, DdAll G us ys → NstAll G (upd H p (.lst us)) vs (its.set k (.inr ys)) fps
  | [], _, _, _, _, _, _, e => by simp at e
  | .inl d :: its, v :: vs, fps, 0, xs, h, nd, e => by simp at e
  | .inl d :: its, v :: vs, fps, k + 1, xs, h, nd, e => by
    have h : Dd G v d ∧ NstAll G H vs its fps := by cases fps <;> exact h
    obtain ⟨p, ws, e1, e2, e3, e4, e5⟩ := NstAll.at h.2 nd (k := k) (xs := xs) (by simpa using e)
    exact ⟨p, ws, by simpa using e1, e2, e3, e4, fun ys us q => .consD h.1 (e5 ys us q)⟩
  | .inr zs :: its, v :: vs, p :: fps, 0, xs, h, nd, e => by
    obtain ⟨rfl, ⟨ws, h2, h3⟩, h4⟩ := h
    have e : zs = xs := by simpa using e
    subst e
    obtain ⟨nd1, nd2⟩ := List.nodup_cons.mp nd
    refine ⟨p, ws, rfl, by simp, h2, h3, fun ys us q => ⟨rfl, ⟨us, upd_same, q⟩, NstAll.mono (Same.refl _) _ _ _ (fun a ha => upd_ne fun z => nd1 (z ▸ ha)) h4⟩⟩
  | .inr zs :: its, v :: vs, q0 :: fps, k + 1, xs, h, nd, e => by
    obtain ⟨rfl, ⟨ws, h2, h3⟩, h4⟩ := h
    obtain ⟨nd1, nd2⟩ := List.nodup_cons.mp nd
    obtain ⟨p, us, e1, e2, e3, e4, e5⟩ := NstAll.at (its := its) (vs := vs) h4 nd2 (k := k) (xs := xs) (by simpa using e)
    exact ⟨p, us, by simpa using e1, List.mem_cons_of_mem _ e2, e3, e4, fun ys us q => ⟨rfl, ⟨ws, by rw [upd_ne (show q0 ≠ p from fun z => nd1 (by rw [z]; exact e2))]; exact h2, h3⟩, e5 ys us q⟩⟩
/-- xss[k].append(e) -/
theorem w1_appN (i k : Nat) {as : List Addr} {its : List (PyData ⊕ List PyData)} {xs : List PyData} {u : Nat} {pk psb pa pc : Pos} (hr : ρ[i]? = some (some (.obj (.nst as its)))) (hk : its[k]? = some (.inr xs)) (h : WE S e ρ fun d => xs.length < sizeLine ∧ R (.nx (ρ.set i (some (.obj (.nst as (its.set k (.inr (xs ++ [d])))))))))
    (hN : S.N[i]? = some x) (hv : Vis S.sc x) (hd : (x == ("__debug__" : Str)) = false := by decide) (hcd : (x == ("__classdict__" : Str)) = false := by decide)
    (he : ∀ env, starEach [e] env = (false, eval e env) :: starEach [] env := by intro _; rfl)
    (hfew : ∀ env, ((backTo pc (starEach [e] env)).all (fun x => !x.1) && (backToKw pc (keywordEach [] env)).all (fun x => x.1.isSome)
      && decide ([e].length + ([] : List Keyword).length + (if ([] : List Keyword).isEmpty then 0 else 1) < 30)) = true := by intro _; rfl)
    (hbase : ∀ env, attributeBase (.Subscript (.Name x px) (.Constant (.int (k : Int)) u pk) psb) "append" env (eval (.Subscript (.Name x px) (.Constant (.int (k : Int)) u pk) psb) env) = eval (.Subscript (.Name x px) (.Constant (.int (k : Int)) u pk) psb) env := by intro _; rfl) (hline : (pa.endLine == pc.line) = true := by rfl)
    (hs : PlainIx (.Constant (.int (k : Int)) u pk) := by exact fun _ _ => rfl)
    (hsw : ∀ env, swapsWith (.Call (.Attribute (.Subscript (.Name x px) (.Constant (.int (k : Int)) u pk) psb) "append" pa) [e] [] pc) none pos.line env = pure false := by intro _; rfl) :
    W1 S (.Expr (.Call (.Attribute (.Subscript (.Name x px) (.Constant (.int (k : Int)) u pk) psb) "append" pa) [e] [] pc) pos) ρ R := by
  intro X f G0 R0 H0 σ G Rr H s0 E D ok
  refine W1.by (ps_expr (pe_bm PySem.F.plainAttrs_list PySem.F.slot_list_append PySem.F.type_list_append mt_append (pe_ix ix_list (pe_var (i := i) (by rw [f.N]; exact hN) (by rw [f.sc]; exact hv) hd hcd) pe_int hs) (pa_cons pe_U pa_nil (he _)) (hbase _) (hfew _) hline (he _) (by rfl)) (hsw _)) ?_
  obtain ⟨v, e1, ho, fr⟩ := obj_at E hr
  cases v with
  | ref l =>
    have fr' : ∀ a ∈ as, Free H0 G Rr H a := fr
    have ho0 := ho
    obtain ⟨vs, fps, ea, nda, h1, h2⟩ := ho0
    have ndf : fps.Nodup := by rw [ea] at nda; exact (List.nodup_cons.mp nda).2
    obtain ⟨p, ws, g1, g2, g3, g4, g5⟩ := h2.at ndf hk
    refine ⟨.ref l, e1, l, vs, (k : Int), .ref p, rfl, rfl, SqL.of h1, atI_of (j := k) rfl g1, .inl ⟨rfl, ws, SqL.of g3⟩, h X f H0 σ G Rr H E _ fun d w G2 R2 H2 q st dd => ?_⟩
    have hp : p ∈ as := by rw [ea]; exact List.mem_cons_of_mem _ g2
    obtain ⟨f2, e2⟩ := st.free1 (fr' p hp)
    have ho2 : OwnAt G2 H2 (.nst as its) (.ref l) := OwnAt.mono st.gg (fun a ha => (st.free1 (fr a ha)).2) ho
    obtain ⟨vs', fps', ea', nda', h1', h2'⟩ := ho2
    rw [ea] at ea'
    cases ea'
    obtain ⟨p', ws', g1', g2', g3', g4', g5'⟩ := h2'.at ndf hk
    have evs : vs' = vs := by
      have := (st.free1 (fr' l (by rw [ea]; simp))).2
      rw [h1', h1] at this
      cases this
      rfl
    subst evs
    rw [g1] at g1'
    cases g1'
    have nlp : l ≠ p := fun z => by rw [ea] at nda; exact (List.nodup_cons.mp nda).1 (z ▸ g2)
    have hws : ws' = ws := by rw [g3', g3] at e2; cases e2; rfl
    subst hws
    refine ⟨p, ws', w, rfl, rfl, g3', by rw [g4'.len]; exact q.1, ok.nx _ _ _ _ _ q.2 ((s0.trans st).off f2.2.2.1 f2.1 f2.2.1) ?_⟩
    refine (E.step st).chgO (o' := .nst as (its.set k (.inr (xs ++ [d])))) hr e1 ⟨vs', fps, ea, nda, by rw [upd_ne nlp]; exact h1', g5' _ _ (g4'.app (.cons dd .nil))⟩ rfl (fun b hb => upd_ne fun z => hb (by rw [z]; exact hp)) fun b hb => ?_
    by_cases z : b = p
    · subst z; exact ⟨_, upd_same⟩
    · rw [upd_ne z]
      exact (st.free1 (fr b hb)).1.2.2.2
  | _ => exact ho.elim
/-- return a new list -/
theorem w1_retF (h : WF S e ρ fun xs => R (.ro xs)) : W1 S (.Return (some e) pos) ρ R := by
  intro X f G0 R0 H0 σ G Rr H s0 E D ok
  refine W1.by (ps_ret pe_U) (h X f H0 σ G Rr H E _ fun ds vs p G2 R2 H2 q st hp dd => ?_)
  have s2 := s0.trans st
  obtain ⟨f0, fg, fr⟩ := s2.free hp
  exact ok.ro _ _ _ _ _ _ q (s2.off f0 fg fr) upd_same fg fr f0 dd
/-- a, b = a new list, data -/
theorem w1_parOD (i j : Nat) {kt k2 : Nat} {pt pt2 : Pos} (h : WF S a ρ fun ds => WE S b ρ fun d => R (.nx ((ρ.set i (some (.own ds))).set j (some (.dat d))))) (hN : S.N[i]? = some x) (hN' : S.N[j]? = some y) (hij : i ≠ j)
    (hl : S.sc.names.lookup x = some .local) (hl' : S.sc.names.lookup y = some .local)
    (hw : ∀ env : Env, env.scope = S.sc → swappedStores [.Tuple [.Name x px, .Name y py] kt pt] (.Tuple [a, b] k2 pt2) env = pure (some [x, y]))
    (hs : ∀ env, swapsWithSole [.Tuple [.Name x px, .Name y py] kt pt] (.Tuple [a, b] k2 pt2) pos.line env = pure false := by intro _; rfl)
    (he : ∀ env, starEach [a, b] env = (false, eval a env) :: starEach [b] env := by intro _; rfl) (he2 : ∀ env, starEach [b] env = (false, eval b env) :: starEach [] env := by intro _; rfl) :
    W1 S (.Assign [.Tuple [.Name x px, .Name y py] kt pt] (.Tuple [a, b] k2 pt2) pos) ρ R := by
  intro X f G0 R0 H0 σ G Rr H s0 E D ok
  refine W1.by (ps_par (i := i) (j := j) f.calm f.nd (by rw [f.N]; exact hN) (by rw [f.N]; exact hN') hij (by rw [f.sc]; exact hl) (by rw [f.sc]; exact hl') (pa_cons pe_U (pa_cons pe_U pa_nil (he2 _)) (he _)) (hw _ f.sc) (hs _)) ?_
  refine h X f H0 σ G Rr H E _ fun ds vs p G2 R2 H2 hb st hp dd => ?_
  obtain ⟨f0, fg, fr⟩ := (s0.trans st).free hp
  have bes : Beside ρ σ p := (E.step st).beside hp
  have E2 := (E.step st).off (o := .lst vs) fg fr bes
  have s2 := (s0.trans st).off (o := .lst vs) f0 fg fr
  refine hb X f H0 σ G2 R2 _ E2 _ fun d u G3 R3 H3 r st3 du => ?_
  obtain ⟨c1, c2, c3⟩ := st3.apart upd_same fg fr
  have E4 := (E2.step st3).take i c1 c2 c3 f0 bes (DdAll.mono st3.gg _ _ dd)
  exact ⟨.ref p, u, rfl, ok.nx _ _ _ _ _ r (s2.trans st3) (E4.setD j du)⟩
end
end Tee

/-! part T: for part in xss[:n]: part.append(None) -/
namespace Tee
open PySem PySem.Spec PyProof.Rows L2
theorem NstAll.lens {G H : Hp} {m : Nat} : ∀ {its : List (PyData ⊕ List PyData)} {vs : List V} {fps : List Addr}, NstAll G H vs its fps → (∀ xs, .inr xs ∈ its → xs.length ≤ m) → ∀ p ∈ fps, ∃ us, H p = some (.lst us) ∧ us.length ≤ m
  | [], [], [], _, _, p, hp => by cases hp
  | .inl d :: its, v :: vs, fps, h, hm, p, hp => by
    have h : Dd G v d ∧ NstAll G H vs its fps := by cases fps <;> exact h
    exact NstAll.lens h.2 (fun xs hx => hm xs (List.mem_cons_of_mem _ hx)) p hp
  | .inr xs :: its, v :: vs, q :: fps, h, hm, p, hp => by
    obtain ⟨_, ⟨ws, h2, h3⟩, h4⟩ := h
    rcases List.mem_cons.mp hp with rfl | hp
    · exact ⟨ws, h2, by rw [h3.len]; exact hm xs (by simp)⟩
    · exact NstAll.lens (its := its) (vs := vs) h4 (fun xs hx => hm xs (List.mem_cons_of_mem _ hx)) p hp
section
variable {S : Sta} {ρ : Rho} {R : Out → Prop} {x y : Str} {p px py pos : Pos}
theorem w1_forN (i j n : Nat) {as : List Addr} {its : List (PyData ⊕ List PyData)} {u u2 : Nat} {pk ps psl py2 pa pc pe pn : Pos} (hr : ρ[i]? = some (some (.obj (.nst as its)))) (hn : ∀ k, k < n → ∃ xs, its[k]? = some (.inr xs)) (hm : ∀ xs, .inr xs ∈ its → xs.length ≤ 1000) (hn2 : n ≤ 1000) (hij : i ≠ j) (hj : j < ρ.length)
    (h : R (.nx ((ρ.set i none).set j none)))
    (hN : S.N[i]? = some x) (hv : Vis S.sc x) (hN' : S.N[j]? = some y) (hl' : L2.Loc S.sc y) (hf' : S.fn y = true ∨ S.sc.names.lookup y = some .local) (hv' : Vis S.sc y)
    (hd : (x == ("__debug__" : Str)) = false := by decide) (hcd : (x == ("__classdict__" : Str)) = false := by decide) (hd' : (y == ("__debug__" : Str)) = false := by decide) (hcd' : (y == ("__classdict__" : Str)) = false := by decide)
    (hfew : ∀ env, ((backTo pc (starEach [.Constant .none u2 pn] env)).all (fun x => !x.1) && (backToKw pc (keywordEach [] env)).all (fun x => x.1.isSome)
      && decide ([Expr.Constant .none u2 pn].length + ([] : List Keyword).length + (if ([] : List Keyword).isEmpty then 0 else 1) < 30)) = true := by intro _; rfl)
    (hbase : ∀ env, attributeBase (.Name y py2) "append" env (eval (.Name y py2) env) = eval (.Name y py2) env := by intro _; rfl) (hline : (pa.endLine == pc.line) = true := by rfl)
    (hsw : ∀ env, swapsWith (.Call (.Attribute (.Name y py2) "append" pa) [.Constant .none u2 pn] [] pc) none pe.line env = pure false := by intro _; rfl)
    (hs : ∀ env z, foldedSetIterable (.Subscript (.Name x px) (.Slice none (some (.Constant (.int (n : Int)) u pk)) none psl) ps) env z = pure z := by intro _ _; rfl) :
    W1 S (.For (.Name y py) (.Subscript (.Name x px) (.Slice none (some (.Constant (.int (n : Int)) u pk)) none psl) ps) [.Expr (.Call (.Attribute (.Name y py2) "append" pa) [.Constant .none u2 pn] [] pc) pe] [] pos) ρ R := by
  intro X f G0 R0 H0 σ G Rr H s0 E D ok
  refine W1.by (ps_for (by rw [f.xe]; exact PassesOwn.never) f.calm (pi_list (pe_slice sl_list (pe_var (i := i) (by rw [f.N]; exact hN) (by rw [f.sc]; exact hv) hd hcd) po_none (po_some pe_int)))
    (pg_name (i := j) f.nd (by rw [f.N]; exact hN') (by unfold L2.Loc; rw [f.sc]; exact hl') (hf'.elim (fun z => .inl (f.fn _ z)) (fun z => .inr (by rw [f.sc]; exact z))))
    (pss_one (ps_expr (pe_bm PySem.F.plainAttrs_list PySem.F.slot_list_append PySem.F.type_list_append mt_append (pe_var (i := j) (by rw [f.N]; exact hN') (by rw [f.sc]; exact hv') hd' hcd') (pa_cons pe_non pa_nil rfl) (hbase _) (hfew _) hline rfl rfl) (hsw _))) (hs _)) ?_
  obtain ⟨v, e1, ho, fr⟩ := obj_at E hr
  cases v with
  | ref l =>
    have fr' : ∀ a ∈ as, Free H0 G Rr H a := fr
    obtain ⟨vs, fps, ea, nda, h1, h2⟩ := ho
    have frf : ∀ a ∈ fps, Free H0 G Rr H a := fun a ha => fr' a (by rw [ea]; exact List.mem_cons_of_mem _ ha)
    have hjl : j < σ.length := by rw [← E.len]; exact hj
    have lens := h2.lens hm
    refine ⟨.ref l, e1, (n : Int), rfl, l, vs, rfl, SqL.of h1, fun q hq => ?_⟩
    rw [cut_head]
    obtain ⟨q0, qg, qr⟩ := s0.free hq
    refine ⟨q, rfl, ⟨_, SqL.of upd_same⟩, ?_⟩
    have qf : ∀ a ∈ fps, a ≠ q := fun a ha z => by obtain ⟨_, _, _, w, e⟩ := frf a ha; rw [z, hq] at e; cases e
    have bes0 : ∀ a ∈ fps, Beside ((ρ.set i none).set j none) σ a := fun a ha c o v k1 k2 k3 => by
      obtain ⟨n1, k4⟩ := set_other (fun _ z => by cases z) k1
      obtain ⟨n2, k5⟩ := set_other (fun _ z => by cases z) k4
      exact n2 (E.apart i c _ o (.ref l) v a hr k5 e1 k2 (show a ∈ as by rw [ea]; exact List.mem_cons_of_mem _ ha) k3)
    refine ⟨fun k m σ' H' => m = (vs.take n).length - k ∧ k ≤ (vs.take n).length ∧ Stp G0 R0 H0 G Rr H' ∧ EnvR S.K H0 ((ρ.set i none).set j none) σ' G Rr H' ∧ H' q = some (.lst (vs.take n)) ∧ ∀ p ∈ fps, (∃ us, H' p = some (.lst us) ∧ us.length ≤ 1000 + k) ∧ Beside ((ρ.set i none).set j none) σ' p,
      ⟨_, rfl, Nat.zero_le _, s0.off q0 qg qr, ((E.off (o := .lst (vs.take n)) qg qr (E.beside hq)).lose i).lose j, upd_same, fun a ha => ⟨?_, bes0 a ha⟩⟩, ?_⟩
    · obtain ⟨us, k1, k2⟩ := lens a ha
      exact ⟨us, by rw [upd_ne (qf a ha)]; exact k1, by omega⟩
    rintro k m σ' H' ⟨rfl, hk, s', E', hq', hp'⟩
    by_cases hlt : k < (vs.take n).length
    · have hkn : k < n := by rw [List.length_take] at hlt; omega
      obtain ⟨xs, hxs⟩ := hn k hkn
      obtain ⟨a, ws, g1, g2, g3, g4, _⟩ := h2.at (by rw [ea] at nda; exact (List.nodup_cons.mp nda).2) hxs
      have g1' : (vs.take n)[k]? = some (.ref a) := by rw [List.getElem?_take, if_pos hkn]; exact g1
      refine .inr ⟨⟨vs.take n, .ref a, SqL.of hq', g1'⟩, fun σ'' H'' => Stp G0 R0 H0 G Rr H'' ∧ EnvR S.K H0 ((ρ.set i none).set j none) σ'' G Rr H'' ∧ H'' q = some (.lst (vs.take n)) ∧ ∀ p ∈ fps, (∃ us, H'' p = some (.lst us) ∧ us.length ≤ 1000 + (k + 1)) ∧ Beside ((ρ.set i none).set j none) σ'' p,
        fun σ'' H'' hnx => ⟨(vs.take n).length - (k + 1), by omega, rfl, hlt, hnx⟩, fun v H'' hv => ?_⟩
      obtain ⟨e2, e3⟩ := hv
      subst e2
      have ev : V.ref a = v := Option.some.inj (g1'.symm.trans (e3 _ (SqL.of hq')))
      subst ev
      obtain ⟨⟨us, k1, k2⟩, k3⟩ := hp' a g2
      obtain ⟨fg, fr2, f0, _⟩ := frf a g2
      have hjl' : j < σ'.length := by
        have := E'.len
        simp only [List.length_set] at this
        have := E.len
        omega
      have E2 := E'.drop j (some (.ref a))
      rw [List.set_set] at E2
      have bes2 : ∀ b, Beside ((ρ.set i none).set j none) σ' b → Beside ((ρ.set i none).set j none) (σ'.set j (some (.ref a))) b := fun b hb c o v z1 z2 => by
        have z3 : j ≠ c := (set_other (fun _ z => by cases z) z1).1
        rw [List.getElem?_set_ne z3] at z2
        exact hb c o v z1 z2
      refine ⟨.ref a, List.getElem?_set_self hjl', .inl ⟨rfl, us, SqL.of k1⟩, a, us, .non, rfl, rfl, k1, Nat.lt_of_le_of_lt (show us.length ≤ 3000 by omega) (by decide), ?_⟩
      refine ⟨s'.off f0 fg fr2, E2.off fg fr2 (bes2 a k3), by rw [upd_ne (fun z => qf a g2 z.symm)]; exact hq', fun b hb => ⟨?_, bes2 b (hp' b hb).2⟩⟩
      by_cases z : b = a
      · subst z
        exact ⟨us ++ [.non], upd_same, by simp; omega⟩
      · obtain ⟨⟨us', y1, y2⟩, _⟩ := hp' b hb
        exact ⟨us', by rw [upd_ne z]; exact y1, by omega⟩
    · exact .inl ⟨⟨vs.take n, SqL.of hq', by omega⟩, ok.nx _ _ _ _ _ h s' E'⟩
  | _ => exact ho.elim
end
end Tee

/-! part U: dicts of a def's own -/
namespace Tee
open PySem PySem.Spec PyProof.Rows L2
def valD (kvs : List (Key × PyData)) (k : Key) : Option PyData := (kvs.find? fun kv => decide (kv.1 = k)).map (·.2)
def putD (kvs : List (Key × PyData)) (k : Key) (d : PyData) : List (Key × PyData) :=
  if (kvs.any fun kv => decide (kv.1 = k)) = true then kvs.map (fun kv => if kv.1 = k then (kv.1, d) else kv) else kvs ++ [(k, d)]
def keyD : Key → PyData
  | .inl i => .int i
  | .inr x => .str x
theorem Dd.key {G : Hp} {v : V} {k : Key} (h : Dd G v (keyD k)) : v = kV k := by
  cases k with
  | inl i => cases h; rfl
  | inr x => cases h; rfl
def KvAll (G : Hp) (es : List (Key × V)) (kvs : List (Key × PyData)) : Prop := es.map (·.1) = kvs.map (·.1) ∧ DdAll G (es.map (·.2)) (kvs.map (·.2))
theorem KvAll.nil {G : Hp} : KvAll G [] [] := ⟨rfl, .nil⟩
theorem KvAll.cons {G : Hp} {k : Key} {v : V} {d : PyData} {es : List (Key × V)} {kvs : List (Key × PyData)} (h : Dd G v d) (t : KvAll G es kvs) : KvAll G ((k, v) :: es) ((k, d) :: kvs) := ⟨by rw [List.map_cons, List.map_cons, t.1], .cons h t.2⟩
theorem KvAll.inv {G : Hp} {p : Key × V} {q : Key × PyData} {es : List (Key × V)} {kvs : List (Key × PyData)} (h : KvAll G (p :: es) (q :: kvs)) : p.1 = q.1 ∧ Dd G p.2 q.2 ∧ KvAll G es kvs := by
  obtain ⟨h1, h2⟩ := h
  rw [List.map_cons, List.map_cons] at h1 h2
  injection h1 with h1 h3
  cases h2 with
  | cons h4 h5 => exact ⟨h1, h4, h3, h5⟩
theorem KvAll.len {G : Hp} {es : List (Key × V)} {kvs : List (Key × PyData)} (h : KvAll G es kvs) : es.length = kvs.length := by
  have := congrArg List.length h.1
  rwa [List.length_map, List.length_map] at this
theorem KvAll.mono {G G' : Hp} (sm : Same G G') {es : List (Key × V)} {kvs : List (Key × PyData)} (h : KvAll G es kvs) : KvAll G' es kvs := ⟨h.1, DdAll.mono sm _ _ h.2⟩
theorem KvAll.rel {G : Hp} : ∀ {es : List (Key × V)} {kvs : List (Key × PyData)} (k : Key), KvAll G es kvs → (valV es k = none ∧ valD kvs k = none) ∨ ∃ v d, valV es k = some v ∧ valD kvs k = some d ∧ Dd G v d
  | [], [], k, _ => .inl ⟨rfl, rfl⟩
  | [], _ :: _, _, h => by have := h.len; simp at this
  | _ :: _, [], _, h => by have := h.len; simp at this
  | p :: es, q :: kvs, k, h => by
    obtain ⟨h1, h2, h3⟩ := h.inv
    by_cases e : p.1 = k
    · refine .inr ⟨p.2, q.2, by simp [valV, List.find?_cons, e], by simp [valD, List.find?_cons, ← h1, e], h2⟩
    · have r := KvAll.rel k h3
      have e1 : valV (p :: es) k = valV es k := by simp [valV, List.find?_cons, e]
      have e2 : valD (q :: kvs) k = valD kvs k := by simp [valD, List.find?_cons, ← h1, e]
      rw [e1, e2]
      exact r
theorem KvAll.any {G : Hp} : ∀ {es : List (Key × V)} {kvs : List (Key × PyData)} (k : Key), KvAll G es kvs → (es.any fun kv => decide (kv.1 = k)) = (kvs.any fun kv => decide (kv.1 = k))
  | [], [], k, _ => rfl
  | [], _ :: _, _, h => by have := h.len; simp at this
  | _ :: _, [], _, h => by have := h.len; simp at this
  | p :: es, q :: kvs, k, h => by
    obtain ⟨h1, _, h3⟩ := h.inv
    rw [List.any_cons, List.any_cons, KvAll.any k h3, h1]
theorem KvAll.map {G : Hp} {v : V} {d : PyData} (hd : Dd G v d) (k : Key) : ∀ {es : List (Key × V)} {kvs : List (Key × PyData)}, KvAll G es kvs → KvAll G (es.map fun kv => if kv.1 = k then (kv.1, v) else kv) (kvs.map fun kv => if kv.1 = k then (kv.1, d) else kv)
  | [], [], _ => .nil
  | [], _ :: _, h => by have := h.len; simp at this
  | _ :: _, [], h => by have := h.len; simp at this
  | p :: es, q :: kvs, h => by
    obtain ⟨h1, h2, h3⟩ := h.inv
    obtain ⟨pk, pv⟩ := p
    obtain ⟨qk, qd⟩ := q
    have h1 : pk = qk := h1
    subst h1
    rw [List.map_cons, List.map_cons]
    by_cases e : pk = k
    · simp only [e, if_true]
      exact .cons hd (KvAll.map hd k h3)
    · simp only [e, if_false]
      exact .cons h2 (KvAll.map hd k h3)
theorem KvAll.app {G : Hp} : ∀ {es es2 : List (Key × V)} {kvs kvs2 : List (Key × PyData)}, KvAll G es kvs → KvAll G es2 kvs2 → KvAll G (es ++ es2) (kvs ++ kvs2) := fun h q =>
  ⟨by rw [List.map_append, List.map_append, h.1, q.1], by rw [List.map_append, List.map_append]; exact h.2.app q.2⟩
theorem KvAll.put {G : Hp} {v : V} {d : PyData} (hd : Dd G v d) (k : Key) {es : List (Key × V)} {kvs : List (Key × PyData)} (h : KvAll G es kvs) : KvAll G (putK es k v) (putD kvs k d) := by
  unfold putK putD
  rw [h.any k]
  split
  · exact h.map hd k
  · exact h.app (.cons hd .nil)
section
variable {S : Sta} {ρ : Rho} {R : Out → Prop} {a b e : Expr} {x : Str} {p px pos : Pos}
theorem dct_at {K : PySem.W.Frag} {H0 : Hp} {σ : L2.St} {G Rr H : Hp} (E : EnvR K H0 ρ σ G Rr H) {i : Nat} {kvs : List (Key × PyData)} (hi : ρ[i]? = some (some (.obj (.dct kvs)))) :
    ∃ l es, σ[i]? = some (some (.ref l)) ∧ H l = some (.dK es) ∧ G l = none ∧ Rr l = none ∧ H0 l = none ∧ KvAll G es kvs := by
  obtain ⟨v, hs, ho, fr⟩ := obj_at E hi
  cases v with
  | ref l =>
    obtain ⟨es, h1, h2, h3⟩ := ho
    obtain ⟨f1, f2, f3, _⟩ := fr l (by simp [foot])
    exact ⟨l, es, hs, h1, f1, f2, f3, h2, h3⟩
  | _ => exact ho.elim
theorem EnvR.chgD {K : PySem.W.Frag} {H0 : Hp} {σ : L2.St} {G R H : Hp} (E : EnvR K H0 ρ σ G R H) {i : Nat} {kvs kvs' : List (Key × PyData)} {es' : List (Key × V)} {l : Addr} (hi : ρ[i]? = some (some (.obj (.dct kvs)))) (hs : σ[i]? = some (some (.ref l))) (h : KvAll G es' kvs') :
    EnvR K H0 (ρ.set i (some (.obj (.dct kvs')))) σ G R (upd H l (.dK es')) :=
  E.chgO (o' := .dct kvs') hi hs ⟨es', upd_same, h.1, h.2⟩ rfl (fun b hb => upd_ne fun q => hb (by rw [q]; simp [foot])) fun b hb => by
    rw [List.mem_singleton.mp (show b ∈ [l] from hb)]
    exact ⟨_, upd_same⟩
theorem units1 {X : Cx} (f : Fits S X) : X.A.units + 1 < cLine := Nat.lt_of_le_of_lt (by omega) f.room.units
/-- d[k] -/
theorem we_getK (i : Nat) {kvs : List (Key × PyData)} {Q : PyData → Prop} (hr : ρ[i]? = some (some (.obj (.dct kvs)))) (h : WE S b ρ fun dk => ∃ k d, dk = keyD k ∧ valD kvs k = some d ∧ Q d)
    (hN : S.N[i]? = some x) (hv : Vis S.sc x) (hs : NoSl b := by intro _ _; rfl) (hd : (x == ("__debug__" : Str)) = false := by decide) (hcd : (x == ("__classdict__" : Str)) = false := by decide) : WE S (.Subscript (.Name x p) b pos) ρ Q := by
  intro X f H0 σ G R H E QV kq
  refine WE.by (pe_dget (units1 f) (pe_var (i := i) (by rw [f.N]; exact hN) (by rw [f.sc]; exact hv) hd hcd) pe_U hs) ?_
  obtain ⟨l, es, e1, h1, h2, h3, h4, h5⟩ := dct_at E hr
  refine ⟨.ref l, e1, h X f H0 σ G R H E _ fun dk v G2 R2 H2 ⟨k, d, ek, hk, q⟩ st dd => ?_⟩
  subst ek
  obtain rfl := dd.key
  obtain ⟨k1, k2, k3⟩ := st.apart h1 h2 h3
  rcases (h5.mono st.gg).rel k with ⟨_, z⟩ | ⟨w, d', w1, w2, w3⟩
  · rw [z] at hk; cases hk
  · rw [hk] at w2
    cases w2
    exact ⟨l, w, rfl, by rw [← w1]; exact DGet.k k1, kq _ _ _ _ _ q st w3⟩
/-- e in d -/
theorem we_inK (i : Nat) {kvs : List (Key × PyData)} {Q : PyData → Prop} (hr : ρ[i]? = some (some (.obj (.dct kvs)))) (h : WE S a ρ fun dk => ∃ k, dk = keyD k ∧ Q (.bool (valD kvs k).isSome))
    (hN : S.N[i]? = some x) (hv : Vis S.sc x) (hm : behindInMarks .In (.Name x p) = false := by rfl) (hd : (x == ("__debug__" : Str)) = false := by decide) (hcd : (x == ("__classdict__" : Str)) = false := by decide) : WE S (.Compare a [.In] [.Name x p] pos) ρ Q := by
  intro X f H0 σ G R H E QV kq
  refine WE.by (pe_cmp (pc_din (units1 f) pe_U (pe_var (i := i) (by rw [f.N]; exact hN) (by rw [f.sc]; exact hv) hd hcd)) hm) ?_
  obtain ⟨l, es, e1, h1, h2, h3, h4, h5⟩ := dct_at E hr
  refine h X f H0 σ G R H E _ fun dk v G2 R2 H2 ⟨k, ek, q⟩ st dd => ⟨.ref l, e1, ?_⟩
  subst ek
  obtain rfl := dd.key
  obtain ⟨k1, k2, k3⟩ := st.apart h1 h2 h3
  have e2 : (valD kvs k).isSome = (valV es k).isSome := by
    rcases (h5.mono st.gg).rel k with ⟨y, z⟩ | ⟨w, d', w1, w2, w3⟩
    · rw [y, z]; rfl
    · rw [w1, w2]; rfl
  rw [e2] at q
  exact ⟨l, valV es k, rfl, DGet.k k1, kq _ _ _ _ _ q st (.bl _)⟩
/-- d[k] = e -/
theorem w1_putK (i : Nat) {kvs : List (Key × PyData)} {ps' : Pos} (hr : ρ[i]? = some (some (.obj (.dct kvs)))) (h : WE S e ρ fun d => WE S b ρ fun dk => ∃ k, dk = keyD k ∧ kvs.length < sizeLine ∧ R (.nx (ρ.set i (some (.obj (.dct (putD kvs k d)))))))
    (hN : S.N[i]? = some x) (hv : Vis S.sc x) (hd : (x == ("__debug__" : Str)) = false := by decide) (hcd : (x == ("__classdict__" : Str)) = false := by decide)
    (hs : ∀ env, swapsWith e (some (.Subscript (.Name x px) b ps')) pos.line env = pure false := by intro _; rfl) :
    W1 S (.Assign [.Subscript (.Name x px) b ps'] e pos) ρ R := by
  intro X f G0 R0 H0 σ G Rr H s0 E D ok
  refine W1.by (ps_dput (units1 f) (pe_var (i := i) (by rw [f.N]; exact hN) (by rw [f.sc]; exact hv) hd hcd) pe_U pe_U (hs _)) ?_
  refine h X f H0 σ G Rr H E _ fun d v G2 R2 H2 hb st dd => ?_
  obtain ⟨l, es, e1, h1, h2, h3, h4, h5⟩ := dct_at (E.step st) hr
  refine ⟨.ref l, e1, hb X f H0 σ G2 R2 H2 (E.step st) _ fun dk u G3 R3 H3 ⟨k, ek, hz, q⟩ st3 dk' => ?_⟩
  subst ek
  obtain rfl := dk'.key
  obtain ⟨k1, k2, k3⟩ := st3.apart h1 h2 h3
  have s3 := s0.trans (st.trans st3)
  exact ⟨l, _, rfl, DPut.k k1 (by rw [h5.len]; exact hz), ok.nx _ _ _ _ _ q (s3.off h4 k2 k3) (((E.step st).step st3).chgD hr e1 (KvAll.put (Dd.mono st3.gg _ _ dd) k (h5.mono st3.gg)))⟩
/-- a new dict of the def's own, empty -/
theorem w1_newK (i : Nat) (h : R (.nx (ρ.set i (some (.obj (.dct [])))))) (hN : S.N[i]? = some x) (hl : L2.Loc S.sc x) (hf : S.fn x = true ∨ S.sc.names.lookup x = some .local) (hs : ∀ env, swapsWith (.Dict [] [] p) (some (.Name x px)) pos.line env = pure false := by intro _; rfl) :
    W1 S (.Assign [.Name x px] (.Dict [] [] p) pos) ρ R := by
  intro X f G0 R0 H0 σ G Rr H s0 E D ok
  refine W1.by (ps_set (i := i) f.nd (by rw [f.N]; exact hN) (by unfold L2.Loc; rw [f.sc]; exact hl) pe_dnewK (hs _) (hf.elim (fun z => .inl (f.fn _ z)) (fun z => .inr (by rw [f.sc]; exact z)))) ?_
  intro q hq
  obtain ⟨f0, fg, fr⟩ := s0.free hq
  refine ok.nx _ _ _ _ _ h (s0.off f0 fg fr) ((E.off fg fr (E.beside hq)).put i (o := .dct []) (v := .ref q) ⟨[], upd_same, rfl, .nil⟩ fun a ha => ?_)
  rw [List.mem_singleton.mp (show a ∈ [q] from ha)]
  exact ⟨⟨fg, fr, f0, _, upd_same⟩, E.beside hq⟩
end
end Tee

/-! part V: repr of a bool; a pair of data and a new dict; what a dict holds -/
namespace Tee
open PySem PySem.Spec PyProof.Rows L2
theorem call_repr_bl {X : Cx} : CallR X (.builtin "repr") (fun xs H Q => ∃ b : Bool, xs = [.bl b] ∧ Q (.str (PyData.bool b).shown) H) := by
  intro pins s σ H xs us Q I r h
  obtain ⟨b, rfl, q⟩ := h
  obtain ⟨u, rfl, r1⟩ := vals1 r
  cases (show u = Value.bool b from r1)
  refine PySem.P.repr_of_bool ⟨.str _, H, I.tok _, ⟨_, rfl⟩, ?_⟩
  exact q
section
variable {S : Sta} {ρ : Rho} {R : Out → Prop} {a b e : Expr} {es : List Expr} {x y : Str} {p px py pos : Pos}
/-- repr(e), e a bool -/
theorem we_reprB {Q : PyData → Prop} (h : WE S a ρ fun d => ∃ k, d = .bool k ∧ Q (.str (PyData.bool k).shown)) (hm : S.mg "repr" = none) (hg : Gb S "repr" := by rfl)
    (he : ∀ env, starEach [a] env = (false, eval a env) :: starEach [] env := by intro _; rfl) : WE S (.Call (.Name "repr" p) [a] [] pos) ρ Q := by
  intro X f H0 σ G R H E QV kq
  refine WE.by (pe_callB call_repr_bl (gb_of f hg) (by rw [f.mg]; exact hm) (by exact boot_repr) (pa_cons pe_U pa_nil (he _)) (by decide) (by decide) (he _) rfl) ?_
  refine h X f H0 σ G R H E _ fun d v G2 R2 H2 ⟨k, ek, q⟩ st dd => ?_
  subst ek
  cases dd
  exact ⟨k, rfl, kq _ _ _ _ _ q st (.str _)⟩
/-- a, b = e, {}; names that inner scopes know -/
theorem w1_parDKc (i j : Nat) {kt k2 : Nat} {pt pt2 pd : Pos} (h : WE S a ρ fun d => R (.nx ((ρ.set i (some (.dat d))).set j (some (.obj (.dct [])))))) (hN : S.N[i]? = some x) (hN' : S.N[j]? = some y)
    (hl : L2.Loc S.sc x) (hf : S.fn x = true ∨ S.sc.names.lookup x = some .local) (hl' : L2.Loc S.sc y) (hf' : S.fn y = true ∨ S.sc.names.lookup y = some .local)
    (hw : ∀ env : Env, env.scope = S.sc → swappedStores [.Tuple [.Name x px, .Name y py] kt pt] (.Tuple [a, .Dict [] [] pd] k2 pt2) env = pure none)
    (hs : ∀ env, swapsWithSole [.Tuple [.Name x px, .Name y py] kt pt] (.Tuple [a, .Dict [] [] pd] k2 pt2) pos.line env = pure false := by intro _; rfl)
    (he : ∀ env, starEach [a, .Dict [] [] pd] env = (false, eval a env) :: starEach [.Dict [] [] pd] env := by intro _; rfl) (he2 : ∀ env, starEach [.Dict [] [] pd] env = (false, eval (.Dict [] [] pd) env) :: starEach [] env := by intro _; rfl) :
    W1 S (.Assign [.Tuple [.Name x px, .Name y py] kt pt] (.Tuple [a, .Dict [] [] pd] k2 pt2) pos) ρ R := by
  intro X f G0 R0 H0 σ G Rr H s0 E D ok
  have g1 := pg_name (X := X) (pos := px) (i := i) f.nd (by rw [f.N]; exact hN) (by unfold L2.Loc; rw [f.sc]; exact hl) (hf.elim (fun z => .inl (f.fn _ z)) (fun z => .inr (by rw [f.sc]; exact z)))
  have g2 := pg_name (X := X) (pos := py) (i := j) f.nd (by rw [f.N]; exact hN') (by unfold L2.Loc; rw [f.sc]; exact hl') (hf'.elim (fun z => .inl (f.fn _ z)) (fun z => .inr (by rw [f.sc]; exact z)))
  refine W1.by (ps_asg (pe_tup (pa_cons pe_U (pa_cons pe_dnewK pa_nil (he2 _)) (he _))) (pg_tup f.calm (pgs_cons g1 (pgs_cons g2 pgs_nil))) (hs _) (hw _ f.sc)) ?_
  refine h X f H0 σ G Rr H E _ fun d v G2 R2 H2 r st dd => ?_
  intro q hq
  have s2 := s0.trans st
  obtain ⟨q0, qg, qr⟩ := s2.free hq
  have E2 := E.step st
  have bes : Beside ρ σ q := E2.beside hq
  have E3 := E2.off (o := .dK []) qg qr bes
  have s3 := s2.off (o := .dK []) q0 qg qr
  refine ⟨by show 2 ≤ sizeLine; decide, fun tp htp => ?_⟩
  obtain ⟨t0, tg, tr⟩ := s3.free htp
  have E4 := E3.off (o := .tup [v, .ref q]) tg tr (E3.beside htp)
  have s4 := s3.off (o := .tup [v, .ref q]) t0 tg tr
  have nq : q ≠ tp := fun z => by rw [← z, upd_same] at htp; cases htp
  have hq4 : (upd (upd H2 q (.dK [])) tp (.tup [v, .ref q])) q = some (.dK []) := by rw [upd_ne nq]; exact upd_same
  have E5 := E4.setD i dd
  have bes5 : Beside (ρ.set i (some (.dat d))) (σ.set i (some v)) q := fun c o w z1 z2 => by
    obtain ⟨n1, z3⟩ := set_other (fun _ z => by cases z) z1
    rw [List.getElem?_set_ne n1] at z2
    exact bes c o w z3 z2
  have E6 := E5.put j (o := .dct []) (v := .ref q) ⟨[], hq4, rfl, .nil⟩ fun a ha => by
    rw [List.mem_singleton.mp (show a ∈ [q] from ha)]
    exact ⟨⟨qg, qr, q0, _, hq4⟩, bes5⟩
  exact ⟨tp, [v, .ref q], rfl, SqT.of upd_same, rfl, v, [.ref q], rfl, .ref q, [], rfl, rfl, ok.nx _ _ _ _ _ r s4 E6⟩
/-- name = e, where the scope tells that nothing is folded -/
theorem w1_setC (i : Nat) (h : WE S e ρ fun d => R (.nx (ρ.set i (some (.dat d))))) (hN : S.N[i]? = some x) (hl : L2.Loc S.sc x) (hf : S.fn x = true ∨ S.sc.names.lookup x = some .local) (hs : ∀ env : Env, env.scope = S.sc → swapsWith e (some (.Name x p)) pos.line env = pure false) :
    W1 S (.Assign [.Name x p] e pos) ρ R := by
  intro X f G0 R0 H0 σ G Rr H s0 E D ok
  refine W1.by (ps_set (i := i) f.nd (by rw [f.N]; exact hN) (by unfold L2.Loc; rw [f.sc]; exact hl) pe_U (hs _ f.sc) (hf.elim (fun z => .inl (f.fn _ z)) (fun z => .inr (by rw [f.sc]; exact z)))) ?_
  exact h X f H0 σ G Rr H E _ fun d v G2 R2 H2 q st dd => ok.nx _ _ _ _ _ q (s0.trans st) ((E.step st).setD i dd)
/-- a, b, c = e1, e2, e3, all data -/
theorem w1_par3D (i j l : Nat) {c : Expr} {z : Str} {pz : Pos} {kt k2 : Nat} {pt pt2 : Pos} (h : WE S a ρ fun d => WE S b ρ fun d' => WE S c ρ fun d'' => R (.nx (((ρ.set i (some (.dat d))).set j (some (.dat d'))).set l (some (.dat d''))))) (hN : S.N[i]? = some x) (hN' : S.N[j]? = some y) (hN2 : S.N[l]? = some z) (hij : i ≠ j) (hil : i ≠ l) (hjl : j ≠ l)
    (hl : S.sc.names.lookup x = some .local) (hl' : S.sc.names.lookup y = some .local) (hl2 : S.sc.names.lookup z = some .local)
    (hw : ∀ env : Env, env.scope = S.sc → swappedStores [.Tuple [.Name x px, .Name y py, .Name z pz] kt pt] (.Tuple [a, b, c] k2 pt2) env = pure (some [x, y, z]))
    (hs : ∀ env, swapsWithSole [.Tuple [.Name x px, .Name y py, .Name z pz] kt pt] (.Tuple [a, b, c] k2 pt2) pos.line env = pure false := by intro _; rfl)
    (he : ∀ env, starEach [a, b, c] env = (false, eval a env) :: starEach [b, c] env := by intro _; rfl) (he2 : ∀ env, starEach [b, c] env = (false, eval b env) :: starEach [c] env := by intro _; rfl) (he3 : ∀ env, starEach [c] env = (false, eval c env) :: starEach [] env := by intro _; rfl) :
    W1 S (.Assign [.Tuple [.Name x px, .Name y py, .Name z pz] kt pt] (.Tuple [a, b, c] k2 pt2) pos) ρ R := by
  intro X f G0 R0 H0 σ G Rr H s0 E D ok
  refine W1.by (ps_par3 (i := i) (j := j) (l := l) f.calm f.nd (by rw [f.N]; exact hN) (by rw [f.N]; exact hN') (by rw [f.N]; exact hN2) hij hil hjl (by rw [f.sc]; exact hl) (by rw [f.sc]; exact hl') (by rw [f.sc]; exact hl2) (pa_cons pe_U (pa_cons pe_U (pa_cons pe_U pa_nil (he3 _)) (he2 _)) (he _)) (hw _ f.sc) (hs _)) ?_
  refine h X f H0 σ G Rr H E _ fun d v G2 R2 H2 hb st dd => hb X f H0 σ G2 R2 H2 (E.step st) _ fun d' v' G3 R3 H3 hc st3 dd' => hc X f H0 σ G3 R3 H3 ((E.step st).step st3) _ fun d'' v'' G4 R4 H4 r st4 dd'' => ?_
  have s4 := s0.trans ((st.trans st3).trans st4)
  exact ⟨v, v', v'', rfl, ok.nx _ _ _ _ _ r s4 (((((E.step st).step st3).step st4).setD i (Dd.mono (st3.trans st4).gg _ _ dd)).setD j (Dd.mono st4.gg _ _ dd') |>.setD l dd'')⟩
end
theorem valD_put (kvs : List (Key × PyData)) (k k' : Key) (d : PyData) : valD (putD kvs k d) k' = if k' = k then some d else valD kvs k' := by
  have hmap : ∀ kvs : List (Key × PyData), valD (kvs.map fun kv => if kv.1 = k then (kv.1, d) else kv) k' = if k' = k then (if (kvs.any fun kv => decide (kv.1 = k)) = true then some d else none) else valD kvs k' := by
    intro kvs
    induction kvs with
    | nil => split <;> rfl
    | cons p kvs ih =>
      rw [List.map_cons]
      by_cases e : p.1 = k
      · by_cases e2 : k' = k
        · simp [valD, List.find?_cons, e, e2]
        · have : ¬ k = k' := fun z => e2 z.symm
          simp only [e, if_true, e2, if_false] at ih ⊢
          rw [show valD ((k, d) :: kvs.map fun kv => if kv.1 = k then (kv.1, d) else kv) k' = valD (kvs.map fun kv => if kv.1 = k then (kv.1, d) else kv) k' by simp [valD, List.find?_cons, this], ih]
          simp [valD, List.find?_cons, e, this]
      · by_cases e2 : k' = k
        · have : ¬ p.1 = k' := fun z => e (z.trans e2)
          simp only [e, if_false, e2, if_true, List.any_cons, decide_false, Bool.false_or] at ih ⊢
          rw [show valD (p :: kvs.map fun kv => if kv.1 = k then (kv.1, d) else kv) k = valD (kvs.map fun kv => if kv.1 = k then (kv.1, d) else kv) k by simp [valD, List.find?_cons, e]]
          exact ih
        · simp only [e, if_false, e2] at ih ⊢
          by_cases e3 : p.1 = k'
          · simp [valD, List.find?_cons, e3]
          · rw [show ∀ l, valD (p :: l) k' = valD l k' from fun l => by simp [valD, List.find?_cons, e3], ih, show valD (p :: kvs) k' = valD kvs k' by simp [valD, List.find?_cons, e3]]
  unfold putD
  by_cases h : (kvs.any fun kv => decide (kv.1 = k)) = true
  · rw [if_pos h, hmap, if_pos h]
  · rw [if_neg h]
    have hno : ∀ p ∈ kvs, ¬ p.1 = k := fun p hp e => h (List.any_eq_true.mpr ⟨p, hp, decide_eq_true e⟩)
    by_cases e2 : k' = k
    · subst e2
      rw [if_pos rfl]
      unfold valD
      rw [List.find?_append, List.find?_eq_none.mpr (fun p hp => by simpa using hno p hp)]
      simp
    · rw [if_neg e2]
      unfold valD
      rw [List.find?_append]
      have : ¬ k = k' := fun z => e2 z.symm
      cases z : kvs.find? fun kv => decide (kv.1 = k') <;> simp [this]
end Tee

/-! part W: sorted, xs[::-1]; a comprehension that changes a list of the def's own -/
namespace Tee
open PySem PySem.Spec PyProof.Rows L2
section
variable {S : Sta} {ρ : Rho} {R : Out → Prop} {elt tg iter a b e : Expr} {x y : Str} {p px py pos : Pos}
def SortD : PyData → (PyData → Prop) → Prop := fun d Q => ∃ ns : List Int, d = .list (ns.map .int) ∧ ∀ ns' : List Int, ns'.Perm ns → ns'.Pairwise (· ≤ ·) → Q (.list (ns'.map .int))
theorem we_sortedI {Q : PyData → Prop} (h : WO S a ρ fun d => SortD d Q) (hm : S.mg "sorted" = none) (hv : bootBuiltins "sorted" = some (.builtin "sorted")) (hg : Gb S "sorted" := by rfl)
    (he : ∀ env, starEach [a] env = (false, eval a env) :: starEach [] env := by intro _; rfl) : WE S (.Call (.Name "sorted" p) [a] [] pos) ρ Q :=
  we_b1 (D := SortD) (fun X f => cr_sortedI) (fun X f G R H v d Q QV w o q kq => by
    obtain ⟨ns, rfl, q⟩ := q
    obtain ⟨l, vs, rfl, h1, r, _⟩ := o.list w
    have e := DdAll.intsV ns r
    subst e
    exact ⟨l, ns, rfl, SqL.of h1, fun ns' p h2 h3 hp => newL w kq hp (DdAll.ints ns') (q ns' h2 h3)⟩) h hv hm hg (by decide) (by decide) he
theorem DdAll.rev {G : Hp} : ∀ {vs : List V} {ds : List PyData}, DdAll G vs ds → DdAll G vs.reverse ds.reverse
  | _, _, .nil => .nil
  | _, _, .cons h t => by
    rw [List.reverse_cons, List.reverse_cons]
    exact (DdAll.rev t).app (.cons h .nil)
/-- xs[::-1] -/
theorem we_rev {k : Nat} {p1 p2 p3 : Pos} {Q : PyData → Prop} (h : WO S e ρ fun d => ∃ xs, d = .list xs ∧ Q (.list xs.reverse)) : WE S (.Subscript e (.Slice none none (some (.UnaryOp .USub (.Constant (.int 1) k p1) p2)) p3) pos) ρ Q := by
  intro X f H0 σ G R H E QV kq
  refine WE.by (pe_revL pe_U) (h X f H0 σ G R H E _ fun d v G2 R2 H2 ⟨xs, ed, q⟩ st o => ?_)
  subst ed
  obtain ⟨l, vs, rfl, h1, r, _⟩ := o.list st.wd
  exact ⟨l, vs, rfl, SqL.of h1, fun p hp => newL st.wd (fun d v G3 R3 H3 q s3 => kq d v G3 R3 H3 q (st.trans s3)) hp r.rev q⟩
/-- other names' slots may hold anything -/
theorem EnvR.swap {K : PySem.W.Frag} {H0 : Hp} {σ σ' : L2.St} {G Rr H : Hp} (E : EnvR K H0 ρ σ G Rr H) (hl : σ'.length = σ.length) (h : ∀ (c : Nat) (q : SV), ρ[c]? = some (some q) → σ'[c]? = σ[c]?) : EnvR K H0 ρ σ' G Rr H := by
  refine ⟨E.wd, by rw [hl]; exact E.len, fun c q e => ?_, fun i j o o' v v' a h1 h2 h3 h4 => ?_⟩
  · cases q with
    | none => trivial
    | some q => rw [h c q e]; exact E.slot c _ e
  · rw [h i _ h1] at h3
    rw [h j _ h2] at h4
    exact E.apart i j o o' v v' a h1 h2 h3 h4
theorem EnvR.entry {K : PySem.W.Frag} {H0 H0' : Hp} {σ : L2.St} {G Rr H : Hp} (E : EnvR K H0 ρ σ G Rr H) (h : ∀ (i : Nat) (o : OwnO) (v : V) (a : Addr), ρ[i]? = some (some (.obj o)) → σ[i]? = some (some v) → a ∈ foot o v → H0' a = none) : EnvR K H0' ρ σ G Rr H := by
  refine ⟨E.wd, E.len, fun c q e => ?_, E.apart⟩
  have z := E.slot c q e
  cases q with
  | none => trivial
  | some q =>
    cases q with
    | dat d => cases hs : σ[c]? with
      | none => rw [hs] at z; exact z
      | some y => cases y <;> (rw [hs] at z; exact z)
    | rel => cases hs : σ[c]? with
      | none => rw [hs] at z; exact z
      | some y => cases y with
        | none => rw [hs] at z; exact z
        | some v => rw [hs] at z; cases v <;> exact z
    | scr ns => cases hs : σ[c]? with
      | none => rw [hs] at z; exact z
      | some y => cases y with
        | none => rw [hs] at z; exact z
        | some v => rw [hs] at z; cases v <;> exact z
    | obj o => cases hs : σ[c]? with
      | none => rw [hs] at z; exact z
      | some y => cases y with
        | none => rw [hs] at z; exact z
        | some v =>
          rw [hs] at z
          exact ⟨z.1, fun a ha => let ⟨k1, k2, k3, k4⟩ := z.2 a ha; ⟨k1, k2, h c o v a e hs ha, k4⟩⟩
/-- places of the def's own objects -/
def OwnsP (ρ : Rho) (σ : L2.St) (a : Addr) : Prop := ∃ (i : Nat) (o : OwnO) (v : V), ρ[i]? = some (some (.obj o)) ∧ σ[i]? = some (some v) ∧ a ∈ foot o v
open Classical in
noncomputable def lessP (P : Addr → Prop) (H : Hp) : Hp := fun b => if P b then none else H b
theorem lessP_in {P : Addr → Prop} {H : Hp} {b : Addr} (h : P b) : lessP P H b = none := if_pos h
theorem lessP_out {P : Addr → Prop} {H : Hp} {b : Addr} (h : ¬ P b) : lessP P H b = H b := if_neg h
theorem lessP_some {P : Addr → Prop} {H : Hp} {b : Addr} {o : HO} (h : lessP P H b = some o) : ¬ P b ∧ H b = some o := by
  by_cases z : P b
  · rw [lessP_in z] at h; cases h
  · rw [lessP_out z] at h; exact ⟨z, h⟩
theorem EnvR.owns {K : PySem.W.Frag} {H0 : Hp} {σ : L2.St} {G Rr H : Hp} (E : EnvR K H0 ρ σ G Rr H) {a : Addr} (h : OwnsP ρ σ a) : Free H0 G Rr H a := by
  obtain ⟨i, o, v, h1, h2, h3⟩ := h
  have z := E.slot i _ h1
  rw [h2] at z
  exact z.2 a h3
/-- from here on: what stands now, but for the def's own -/
theorem Stp.begin {G R H : Hp} (w : Wd G R H) (P : Addr → Prop) : Stp G R (lessP P H) G R H where
  wd := w
  keep := fun _ _ _ e => (lessP_some e).2
  dom := fun _ o e => ⟨o, (lessP_some e).2⟩
  gg := Same.refl G
  gnew := fun b o e n => by rw [n] at e; cases e
  rnew := fun b o e n => by rw [n] at e; cases e
  rel := fun _ h => h
theorem Stp.frame {G0 R0 H0 G R H G4 R4 H4 : Hp} (s : Stp G0 R0 H0 G R H) {P : Addr → Prop} (hP : ∀ a, P a → H0 a = none) (t : Stp G R (lessP P H) G4 R4 H4) : Stp G0 R0 H0 G4 R4 H4 := by
  have h0 : ∀ b, lessP P H b = none → H0 b = none := fun b e => by
    by_cases z : P b
    · exact hP b z
    · rw [lessP_out z] at e
      exact none_of_dom (fun b o y => s.dom b o y) e
  have nP : ∀ b o, H0 b = some o → ¬ P b := fun b o e z => by rw [hP b z] at e; cases e
  refine ⟨t.wd, fun b o n e => ?_, fun b o e => ?_, s.gg.trans t.gg, fun b o e n => ?_, fun b o e n => ?_, fun r h => t.rel r (s.rel r h)⟩
  · have h1 := s.keep b o n e
    have r1 : R b = none := by
      cases q : R b with
      | none => rfl
      | some u => have := s.rnew b u q n; rw [e] at this; cases this
    exact t.keep b o r1 (by rw [lessP_out (nP b o e)]; exact h1)
  · obtain ⟨u, h1⟩ := s.dom b o e
    exact t.dom b u (by rw [lessP_out (nP b o e)]; exact h1)
  · cases q : G b with
    | some u => exact s.gnew b u q n
    | none => exact h0 b (t.gnew b o e q)
  · cases q : R b with
    | some u => exact s.rnew b u q n
    | none => exact h0 b (t.rnew b o e q)
/-- return [.. for ..], the items change lists of the def's own -/
theorem w1_retLcX {scope : Scope} (own : List (Str × Nat)) (L : List Nat)
    (hi : WI S tg iter ρ fun ds => ds.length ≤ 1000000 ∧ ∃ J : Nat → Rho → List PyData → Prop, J 0 ρ [] ∧
      (∀ i d ρ1 acc, ds[i]? = some d → J i ρ1 acc → wipeR ρ1 (own.map (·.2)) = ρ1 ∧ WTg (S.blk scope) tg L ρ1 d fun ρ2 => WX (S.blk scope) elt ρ2 fun y ρ3 => J (i + 1) (wipeR ρ3 (own.map (·.2))) (acc ++ [y])) ∧ ∀ ρ1 acc, J ds.length ρ1 acc → acc.length ≤ ds.length → R (.ro acc))
    (ok : blkC S.N S.sc scope own = true := by (try dsimp only); decide +kernel) (hL : ∀ j ∈ L, j ∈ own.map (·.2) := by decide) (hs : ∀ env x, foldedSetIterable iter env x = pure x := by intro _ _; rfl) :
    W1 S (.Return (some (.ListComp elt [⟨tg, iter, [], 0⟩] scope p)) pos) ρ R := by
  intro X f G0 R0 H0 σ G Rr H s0 E Dn okD
  obtain ⟨wi, pi, hw⟩ := hi X f H0 σ G Rr H E
  refine W1.by (ps_ret (lc_pe f ok (Nat.zero_le _) pi hs)) (hw _ fun ds It0 G2 R2 H2 q st good => ?_)
  obtain ⟨hz, J, j0, jt, je⟩ := q
  intro D hD
  have s2 := s0.trans st
  obtain ⟨f0, g2, r2⟩ := s2.free hD
  have E2 := E.step st
  have bes := E2.beside hD
  refine ⟨fun i m H' => m = ds.length - i ∧ i ≤ ds.length ∧ ∃ ρ1 acc vs G' R', J i ρ1 acc ∧ acc.length ≤ i ∧ Same G2 G' ∧ Stp G0 R0 H0 G' R' H' ∧ EnvR S.K H0 ρ1 σ G' R' H' ∧ H' D = some (.lst vs) ∧ G' D = none ∧ R' D = none ∧ DdAll G' vs acc ∧ Beside ρ1 σ D,
    ⟨ds.length, by omega, Nat.zero_le _, ρ, [], [], G2, R2, j0, Nat.le_refl _, Same.refl _, s2.off f0 g2 r2, E2.off g2 r2 bes, upd_same, g2, r2, .nil, bes⟩, ?_⟩
  rintro i m H' ⟨rfl, hi', ρ1, acc, vs, G', R', hJ, hacc, sg, s', E', hd', gd', rd', dd', bes'⟩
  obtain ⟨gd1, gd2⟩ := good G' R' H' sg E'.wd i
  by_cases hlt : i < ds.length
  · obtain ⟨hgo, hy⟩ := gd1 hlt
    refine .inr ⟨hgo, fun H'' => ∃ ρ1 acc vs G' R', J (i + 1) ρ1 acc ∧ acc.length ≤ i + 1 ∧ Same G2 G' ∧ Stp G0 R0 H0 G' R' H'' ∧ EnvR S.K H0 ρ1 σ G' R' H'' ∧ H'' D = some (.lst vs) ∧ G' D = none ∧ R' D = none ∧ DdAll G' vs acc ∧ Beside ρ1 σ D,
      fun H'' hn => ⟨ds.length - (i + 1), by omega, rfl, hlt, hn⟩, fun v H'' hv => ?_⟩
    obtain ⟨G3, d, s3, ed, dv⟩ := hy v H'' hv
    obtain ⟨hd3, gd3, rd3⟩ := s3.apart hd' gd' rd'
    have E3 := E'.step s3
    have s03 := s'.trans s3
    obtain ⟨hwp, hT⟩ := jt i d ρ1 acc ed hJ
    have EB := E3.wipe (own.map (·.2))
    rw [hwp] at EB
    -- the turn's own entry
    have hP : ∀ a, OwnsP ρ1 σ a → H0 a = none := fun a ha => (E3.owns ha).2.2.1
    have nD : ¬ OwnsP ρ1 σ D := fun ⟨i, o, v, h1, h2, h3⟩ => bes' i o v h1 h2 h3
    have sb := Stp.begin E3.wd (OwnsP ρ1 σ)
    have wip : ∀ (c : Nat) (o : OwnO), ρ1[c]? = some (some (.obj o)) → (L2.wipe σ (own.map (·.2)))[c]? = σ[c]? := fun c o hc => by
      rw [wipe_get]
      split
      · rename_i hm
        exfalso
        have : ∀ (ws : List Nat), c ∈ ws → (wipeR ρ1 ws)[c]? ≠ some (some (.obj o)) := fun ws => by
          induction ws with
          | nil => intro h; cases h
          | cons w ws ih =>
            intro h
            show ((wipeR ρ1 ws).set w none)[c]? ≠ _
            by_cases e : w = c
            · subst e
              intro z
              obtain ⟨n, _⟩ := set_other (fun _ z => by cases z) z
              exact n rfl
            · rw [List.getElem?_set_ne e]
              exact ih ((List.mem_cons.mp h).resolve_left fun z => e z.symm)
        exact this _ hm.1 (by rw [hwp]; exact hc)
      · rfl
    have EB' := EB.entry (H0' := lessP (OwnsP ρ1 σ) H'') fun c o v a h1 h2 h3 => lessP_in ⟨c, o, v, h1, by rw [← wip c o h1]; exact h2, h3⟩
    intro s1 H1 C cl fp
    have fb := f.blk s1 H1 scope C cl fp
    refine hT _ fb _ _ G3 R' H'' EB' v dv _ fun ρ2 σ2 hK E4 off => ⟨by rw [off.wipe hL, wipe_wipe], ?_⟩
    refine (show tUB X scope elt σ2 H'' _ from ?_)
    intro s1 H1 C cl fp
    refine hK _ (f.blk s1 H1 scope C cl fp) G3 R' _ σ2 G3 R' H'' sb E4 _ fun y w ρ3 G4 R4 H4 hj s5 E5 dy => ?_
    have hDl : lessP (OwnsP ρ1 σ) H'' D = some (.lst vs) := by rw [lessP_out nD]; exact hd3
    have hd4 := s5.keep D _ rd3 hDl
    have gd4 : G4 D = none := by
      cases z : G4 D with
      | none => rfl
      | some u => have := s5.gnew D u z gd3; rw [hDl] at this; cases this
    have rd4 : R4 D = none := by
      cases z : R4 D with
      | none => rfl
      | some u => have := s5.rnew D u z rd3; rw [hDl] at this; cases this
    have s6 := s03.frame hP s5
    have hl0 : ∀ b, lessP (OwnsP ρ1 σ) H'' b = none → H0 b = none := fun b e => by
      by_cases z : OwnsP ρ1 σ b
      · exact hP b z
      · rw [lessP_out z] at e
        exact none_of_dom (fun b o y => s03.dom b o y) e
    -- the names stand as before the turn
    have EW := E5.wipe (own.map (·.2))
    have same : ∀ (c : Nat) (q : SV), (wipeR ρ3 (own.map (·.2)))[c]? = some (some q) → σ[c]? = (L2.wipe σ2 (own.map (·.2)))[c]? := fun c q hc => by
      rw [off.wipe hL, wipe_wipe, wipe_get]
      split
      · rename_i hm
        exfalso
        have : ∀ (ws : List Nat), c ∈ ws → (wipeR ρ3 ws)[c]? ≠ some (some q) := fun ws => by
          induction ws with
          | nil => intro h; cases h
          | cons w ws ih =>
            intro h
            show ((wipeR ρ3 ws).set w none)[c]? ≠ _
            by_cases e : w = c
            · subst e
              intro z
              have hl := (List.getElem?_eq_some_iff.mp z).1
              rw [List.length_set] at hl
              rw [List.getElem?_set_self hl] at z
              cases z
            · rw [List.getElem?_set_ne e]
              exact ih ((List.mem_cons.mp h).resolve_left fun z => e z.symm)
        exact this _ hm.1 hc
      · rfl
    have E6 := EW.swap (σ' := σ) (by rw [off.wipe hL, wipe_wipe, wipe_length]) same
    have bes6 : Beside (wipeR ρ3 (own.map (·.2))) σ D := fun c o v h1 h2 h3 => by
      have := (E6.owns ⟨c, o, v, h1, h2, h3⟩).2.2.1
      rw [hDl] at this
      cases this
    have E7 := E6.entry (H0' := H0) fun c o v a h1 h2 h3 => hl0 a (E6.owns ⟨c, o, v, h1, h2, h3⟩).2.2.1
    refine ⟨vs, hd4, by rw [dd'.len]; exact Nat.lt_of_le_of_lt (show acc.length ≤ 1000000 by omega) (by decide), wipeR ρ3 (own.map (·.2)), acc ++ [y], vs ++ [w], G4, R4, hj, by rw [List.length_append]; exact Nat.succ_le_succ hacc, (sg.trans s3.gg).trans s5.gg, s6.off f0 gd4 rd4, E7.off gd4 rd4 bes6, upd_same, gd4, rd4, ?_, bes6⟩
    exact (DdAll.mono (s3.gg.trans s5.gg) _ _ dd').app (.cons dy .nil)
  · have e : i = ds.length := by omega
    subst e
    exact .inl ⟨gd2 (Nat.le_refl _), okD.ro _ _ _ _ _ _ (je ρ1 acc hJ hacc) s' hd' gd' rd' f0 dd'⟩
end
end Tee

/-! part X: list(range(n)) -/
namespace Tee
open PySem PySem.Spec PyProof.Rows L2
section
variable {S : Sta} {ρ : Rho} {a : Expr} {p p2 pos pos2 : Pos}
theorem we_listRange {Q : PyData → Prop} (h : WO S a ρ fun d => ∃ n : Nat, d = .int (n : Int) ∧ n ≤ 1000000 ∧ Q (.list (upTo n))) (hm : S.mg "list" = none) (hm2 : S.mg "range" = none) (hg : Gb S "list" := by rfl) (hg2 : Gb S "range" := by rfl)
    (na : ∀ env, starEach [a] env = (false, eval a env) :: starEach [] env := by intro _; rfl) (na2 : ∀ env, starEach [.Call (.Name "range" p2) [a] [] pos2] env = (false, eval (.Call (.Name "range" p2) [a] [] pos2) env) :: starEach [] env := by intro _; rfl) :
    WE S (.Call (.Name "list" p) [.Call (.Name "range" p2) [a] [] pos2] [] pos) ρ Q := by
  intro X f H0 σ G R H E QV kq
  refine WE.by (pe_listRg f.calm (gb_of f hg) (by rw [f.mg]; exact hm) (prg_1 (gb_of f hg2) (by rw [f.mg]; exact hm2) pe_U (na _)) (na2 _)) ?_
  refine h X f H0 σ G R H E _ fun d v G2 R2 H2 ⟨n, ed, hn, q⟩ st o => ?_
  subst ed
  refine ⟨(n : Int), o.int, ⟨by omega, by omega, by omega, by omega, by omega⟩, fun q0 hq => ?_⟩
  refine newL st.wd (fun d v G3 R3 H3 q s3 => kq d v G3 R3 H3 q (st.trans s3)) hq ?_ q
  have e : rgV 0 (n : Int) = (((List.range n).map fun i => ((i : Nat) : Int)).map V.int) := by
    unfold rgV
    rw [List.map_map, Int.sub_zero, Int.toNat_natCast]
    refine List.map_congr_left fun i _ => ?_
    show V.int (0 + (i : Int)) = V.int (i : Int)
    rw [Int.zero_add]
  have e2 : upTo n = ((List.range n).map fun i => ((i : Nat) : Int)).map PyData.int := by
    unfold upTo
    rw [List.map_map]
    rfl
  rw [e, e2]
  exact DdAll.ints _
end
end Tee

namespace Tee
open PySem PySem.Spec PyProof.Rows L2
local macro_rules | `(tactic| walk_at "vis") => `(tactic| first | exact Or.inl rfl | exact Or.inr (Or.inl rfl) | exact Or.inr (Or.inr rfl))
local macro_rules | `(tactic| walk_at "loc") => `(tactic| first | exact Or.inl rfl | exact Or.inr rfl)
local macro_rules | `(tactic| walk_at "e") => `(tactic| first | ((with_reducible show WE _ (Expr.Call (Expr.Name "len" _) [Expr.Name "script" _] _ _) _ _); refine we_lenScr 0 rfl (by walk_at "vis") rfl ?_ (by with_reducible assumption)) | ((with_reducible show WE _ (Expr.Constant (Const.int _) _ _) _ _); refine we_int ?_) | ((with_reducible show WE _ (Expr.Constant (Const.str _) _ _) _ _); refine we_str ?_) | ((with_reducible show WE _ (Expr.Constant (Const.bool true) _ _) _ _); refine we_true ?_) | ((with_reducible show WE _ (Expr.Constant (Const.bool false) _ _) _ _); refine we_false ?_) | ((with_reducible show WE _ (Expr.Constant Const.none _ _) _ _); refine we_none ?_) | ((with_reducible show WE _ (Expr.BinOp _ Operator.Add _ _) _ _); refine we_plus ?_) | ((with_reducible show WE _ (Expr.BinOp _ Operator.Sub _ _) _ _); refine we_minus ?_) | ((with_reducible show WE _ (Expr.BinOp _ Operator.Mult _ _) _ _); refine we_times ?_) | ((with_reducible show WE _ (Expr.BinOp _ Operator.FloorDiv _ _) _ _); refine we_fdiv ?_) | ((with_reducible show WE _ (Expr.BinOp _ Operator.Mod _ _) _ _); refine we_mod ?_) | ((with_reducible show WE _ (Expr.BinOp _ Operator.Pow _ _) _ _); refine we_pow ?_) | ((with_reducible show WE _ (Expr.UnaryOp UnaryOp.USub _ _) _ _); refine we_neg ?_) | ((with_reducible show WE _ (Expr.UnaryOp UnaryOp.Not _ _) _ _); refine we_not ?_) | ((with_reducible show WE _ (Expr.Compare _ [_] [_] _) _ _); refine we_cmp ?_) | ((with_reducible show WE _ (Expr.Compare _ [_, _] [_, _] _) _ _); refine we_chain ?_) | ((with_reducible show WE _ (Expr.BoolOp BoolOp.And (_ :: _ :: _) _) _ _); refine we_and ?_) | ((with_reducible show WE _ (Expr.BoolOp BoolOp.Or (_ :: _ :: _) _) _ _); refine we_or ?_) | ((with_reducible show WE _ (Expr.BoolOp _ [_] _) _ _); refine we_one ?_) | ((with_reducible show WE _ (Expr.IfExp _ _ _ _) _ _); refine we_ifExp ?_) | ((with_reducible show WE _ (Expr.Subscript _ (Expr.Slice _ _ _ _) _) _ _); refine we_slice ?_) | ((with_reducible show WE _ (Expr.Subscript _ _ _) _ _); refine we_ix ?_) | ((with_reducible show WE _ (Expr.List _ _) _ _); refine we_list ?_) | ((with_reducible show WE _ (Expr.Tuple _ _ _) _ _); refine we_tuple ?_) | ((with_reducible show WE _ (Expr.Dict [] [] _) _ _); refine we_dict0 ?_) | ((with_reducible show WE _ (Expr.Dict [_] [_] _) _ _); refine we_dict1 ?_) | ((with_reducible show WE _ (Expr.Call (Expr.Name "len" _) [_] _ _) _ _); refine we_len ?_ (by with_reducible assumption)) | ((with_reducible show WE _ (Expr.Call (Expr.Name "sum" _) [_] _ _) _ _); refine we_sum ?_ (by with_reducible assumption)) | ((with_reducible show WE _ (Expr.Call (Expr.Name "max" _) [_] _ _) _ _); refine we_max ?_ (by with_reducible assumption)) | ((with_reducible show WE _ (Expr.Call (Expr.Name "min" _) [_] _ _) _ _); refine we_min ?_ (by with_reducible assumption)) | ((with_reducible show WE _ (Expr.Call (Expr.Name "max" _) [_, _] _ _) _ _); refine we_max2 ?_ (by with_reducible assumption)) | ((with_reducible show WE _ (Expr.Call (Expr.Name "min" _) [_, _] _ _) _ _); refine we_min2 ?_ (by with_reducible assumption)) | ((with_reducible show WE _ (Expr.Call (Expr.Name "int" _) [_] _ _) _ _); refine we_toInt ?_ (by with_reducible assumption)) | ((with_reducible show WE _ (Expr.Call (Expr.Name "tuple" _) [_] _ _) _ _); refine we_toTup ?_ (by with_reducible assumption)) | ((with_reducible show WE _ (Expr.Call (Expr.Name "list" _) [_] _ _) _ _); refine we_toLis ?_ (by with_reducible assumption)) | ((with_reducible show WE _ (Expr.Call (Expr.Name "all" _) [_] _ _) _ _); refine we_all ?_ (by with_reducible assumption)) | ((with_reducible show WE _ (Expr.Call (Expr.Name "any" _) [_] _ _) _ _); refine we_any ?_ (by with_reducible assumption)) | ((with_reducible show WE _ (Expr.Call (Expr.Name "repr" _) [_] _ _) _ _); refine we_repr ?_ (by with_reducible assumption)) | ((with_reducible show WE _ (Expr.Call (Expr.Name "isinstance" _) [_, Expr.Name "int" _] _ _) _ _); refine we_isi (n := "int") ?_ PyProof.Rows.boot_int (by with_reducible assumption) (by with_reducible assumption)) | ((with_reducible show WE _ (Expr.Call (Expr.Name "isinstance" _) [_, Expr.Name "bool" _] _ _) _ _); refine we_isi (n := "bool") ?_ PyProof.Rows.boot_bool (by with_reducible assumption) (by with_reducible assumption)) | ((with_reducible show WE _ (Expr.Call (Expr.Name "isinstance" _) [_, Expr.Tuple _ _ _] _ _) _ _); refine we_isi2 (n := "list") (n' := "tuple") ?_ PyProof.Rows.boot_list PyProof.Rows.boot_tuple (by with_reducible assumption) (by with_reducible assumption) (by with_reducible assumption)) | ((with_reducible show WE _ (Expr.Name _ _) _ _); walk_at "nm") | ((with_reducible show WE _ (Expr.Call (Expr.Name _ _) _ _ _) _ _); walk_at "fn"))
local macro_rules | `(tactic| walk_at "o") => `(tactic| first | ((with_reducible show WO _ (Expr.Name _ _) _ _); walk_at "no") | refine WO.of ?_)
local macro_rules | `(tactic| walk_at "t") => `(tactic| first | ((with_reducible show WT _ (Expr.Compare _ [_] [_] _) _ _); refine wt_cmp ?_) | ((with_reducible show WT _ (Expr.UnaryOp UnaryOp.Not _ _) _ _); refine wt_not ?_) | ((with_reducible show WT _ (Expr.BoolOp _ _ _) _ _); refine wt_bool ?_) | refine wt_val ?_)
local macro_rules | `(tactic| walk_at "w") => `(tactic| first | ((with_reducible show WW _ (Expr.BoolOp BoolOp.And (_ :: _ :: _) _) _ _); refine ww_and ?_) | ((with_reducible show WW _ (Expr.BoolOp BoolOp.Or (_ :: _ :: _) _) _ _); refine ww_or ?_) | ((with_reducible show WW _ (Expr.BoolOp BoolOp.And _ _) _ _); refine ww_and1 ?_) | ((with_reducible show WW _ (Expr.BoolOp BoolOp.Or _ _) _ _); refine ww_or1 ?_))
local macro_rules | `(tactic| walk_at "g") => `(tactic| first | ((with_reducible show WG _ [] _ _); refine wg_nil ?_) | ((with_reducible show WG _ (Expr.Name _ _ :: _) _ _); walk_at "rel") | refine wg_dat ?_)
local macro_rules | `(tactic| walk_at "d") => `(tactic| first | ((with_reducible show WD _ [] _ _); refine wd_nil ?_) | refine wd_cons ?_)
local macro_rules | `(tactic| walk_at "p") => `(tactic| first | ((with_reducible show WPa _ none _ _); refine wp_none ?_) | refine wp_some ?_)
local macro_rules | `(tactic| walk_at "1") => `(tactic| first | ((with_reducible show W1 _ (Stmt.If _ _ _ _) _ _); refine w1_if ?_) | ((with_reducible show W1 _ (Stmt.Return (some _) _) _ _); refine w1_ret ?_) | ((with_reducible show W1 _ (Stmt.Return none _) _ _); refine w1_retN ?_) | ((with_reducible show W1 _ (Stmt.Expr _ _) _ _); walk_at "app") | ((with_reducible show W1 _ (Stmt.Assign [Expr.Subscript _ _ _] _ _) _ _); walk_at "sto") | ((with_reducible show W1 _ (Stmt.Assign [Expr.Name _ _] _ _) _ _); walk_at "set"))
local macro_rules | `(tactic| walk_at "S") => `(tactic| first | ((with_reducible show WS _ [] _ _); refine ws_nil ?_) | refine ws_cons ?_)
local macro_rules | `(tactic| walk_at "lf") => `(tactic| first | refine ⟨_, rfl, ?_⟩ | refine ⟨fun _ => ?_, fun _ => ?_⟩)
local macro_rules | `(tactic| walk_at "cl") => `(tactic| dsimp only [PlusD, MinusD, TimesD, FdivD, ModD, PowD, CmpD, LenD, IxD, SliD, TruD, IntD, TupD, LisD, Max2D, Min2D, thenR, endR])
local macro_rules | `(tactic| walk_at "s") => `(tactic| first | ((with_reducible show WS _ _ _ _); walk_at "S") | ((with_reducible show W1 _ _ _ _); walk_at "1") | ((with_reducible show WE _ _ _ _); walk_at "e") | ((with_reducible show WO _ _ _ _); walk_at "o") | ((with_reducible show WT _ _ _ _); walk_at "t") | ((with_reducible show WW _ _ _ _); walk_at "w") | ((with_reducible show WG _ _ _ _); walk_at "g") | ((with_reducible show WD _ _ _ _); walk_at "d") | ((with_reducible show WPa _ _ _ _); walk_at "p") | ((with_reducible show List.length _ ≤ sizeLine ∧ _); refine ⟨Nat.le_trans (by simp : _ ≤ 100) (by decide), ?_⟩) | ((with_reducible show SeqAt.shaped _ = true ∧ _); refine ⟨by first | rfl | exact shaped_ints _ | assumption, ?_⟩) | ((with_reducible show (0 : Int) < _ ∧ _ < _ ∧ ∀ v : Int, _); refine ⟨by first | omega | decide, by first | exact lt8000 (by omega) | assumption, fun _ _ _ => ?_⟩) | ((with_reducible show (0 : Int) < _ ∧ _); refine ⟨by first | omega | decide, ?_⟩) | ((with_reducible show CPow _ _ ∧ _); refine ⟨⟨by decide, by decide, by decide⟩, ?_⟩) | ((with_reducible show thenR _ _ _ (Out.nx _)); show WS _ _ _ _) | walk_at "cl" | walk_at "lf")
local macro_rules | `(tactic| walk_at "q") => `(tactic| first | ((with_reducible show WE _ _ _ _); walk_at "e") | ((with_reducible show WO _ _ _ _); walk_at "o") | ((with_reducible show WT _ _ _ _); walk_at "t") | ((with_reducible show WW _ _ _ _); walk_at "w") | ((with_reducible show WG _ _ _ _); walk_at "g") | ((with_reducible show WD _ _ _ _); walk_at "d") | ((with_reducible show WPa _ _ _ _); walk_at "p") | ((with_reducible show List.length _ ≤ sizeLine ∧ _); refine ⟨Nat.le_trans (by simp : _ ≤ 100) (by decide), ?_⟩) | ((with_reducible show SeqAt.shaped _ = true ∧ _); refine ⟨by first | rfl | exact shaped_ints _ | assumption, ?_⟩) | ((with_reducible show (0 : Int) < _ ∧ _ < _ ∧ ∀ v : Int, _); refine ⟨by first | omega | decide, by first | exact lt8000 (by omega) | assumption, fun _ _ _ => ?_⟩) | ((with_reducible show (0 : Int) < _ ∧ _); refine ⟨by first | omega | decide, ?_⟩) | ((with_reducible show CPow _ _ ∧ _); refine ⟨⟨by decide, by decide, by decide⟩, ?_⟩) | walk_at "cl" | walk_at "lf")
def topS (i : Nat) : Stmt := PySem.Challenge.pw_teesizes_k07_whole_ranks_and_histories.main.body.getD i (.Pass ⟨0, 0, 0, 0⟩)
abbrev sIib : Stmt := topS 11
abbrev sIlu : Stmt := topS 12
abbrev sAib : Stmt := topS 13
abbrev sRqr : Stmt := topS 14
abbrev sRun : Stmt := topS 18
abbrev sRec : Stmt := topS 19
abbrev sRequireRecord : Stmt := topS 20
abbrev sMerged : Stmt := topS 21
abbrev sRecordBy : Stmt := topS 22
abbrev sChangesBy : Stmt := topS 23
abbrev sCountReads : Stmt := topS 24
abbrev sIsh : Stmt := topS 26
abbrev sRequireHistory : Stmt := topS 27
abbrev sPositionsAfter : Stmt := topS 28
abbrev sRanksOf : Stmt := topS 29
abbrev sChangeOfRank : Stmt := topS 30
abbrev sChangesOf : Stmt := topS 31
abbrev sRecordOf : Stmt := topS 32
abbrev sGreatestSize : Stmt := topS 33
abbrev sKeepsOrder : Stmt := topS 34
abbrev sIsRanks : Stmt := topS 35
abbrev sHistoryBy : Stmt := topS 36
abbrev sRel : Stmt := topS 38
abbrev sDrw : Stmt := topS 39
abbrev sHis : Stmt := topS 40
abbrev sLawShuffled : Stmt := topS 41
abbrev sLaw : Stmt := topS 42
theorem scIib : FnScope ["value", "least", "greatest"] ["value", "least", "greatest"] (defScope sIib) := ⟨rfl, rfl, rfl, by decide +kernel, rfl, by decide +kernel, by decide +kernel⟩
theorem scIlu : FnScope ["value", "most"] ["value", "most"] (defScope sIlu) := ⟨rfl, rfl, rfl, by decide +kernel, rfl, by decide +kernel, by decide +kernel⟩
theorem scAib : FnScope ["value", "most", "least", "greatest", "item"] ["value", "most", "least", "greatest"] (defScope sAib) := ⟨rfl, rfl, rfl, by decide +kernel, rfl, by decide +kernel, by decide +kernel⟩
theorem scRqr : FnScope ["readers", "most"] ["readers", "most"] (defScope sRqr) := ⟨rfl, rfl, rfl, by decide +kernel, rfl, by decide +kernel, by decide +kernel⟩
theorem scRun : FnScope ["value"] ["value"] (defScope sRun) := ⟨rfl, rfl, rfl, by decide +kernel, rfl, by decide +kernel, by decide +kernel⟩
theorem scRec : FnScope ["value", "run", "later"] ["value"] (defScope sRec) := ⟨rfl, rfl, rfl, by decide +kernel, rfl, by decide +kernel, by decide +kernel⟩
theorem scRequireRecord : FnScope ["record"] ["record"] (defScope sRequireRecord) := ⟨rfl, rfl, rfl, by decide +kernel, rfl, by decide +kernel, by decide +kernel⟩
theorem scMerged : FnScope ["runs", "record", "change", "count"] ["runs"] (defScope sMerged) := ⟨rfl, rfl, rfl, by decide +kernel, rfl, by decide +kernel, by decide +kernel⟩
theorem scRecordBy : FnScope ["changes", "change"] ["changes"] (defScope sRecordBy) := ⟨rfl, rfl, rfl, by decide +kernel, rfl, by decide +kernel, by decide +kernel⟩
theorem scChangesBy : FnScope ["record", "reads", "changes", "change", "count"] ["record"] (defScope sChangesBy) := ⟨rfl, rfl, rfl, by decide +kernel, rfl, by decide +kernel, by decide +kernel⟩
theorem scCountReads : FnScope ["record", "run"] ["record"] (defScope sCountReads) := ⟨rfl, rfl, rfl, by decide +kernel, rfl, by decide +kernel, by decide +kernel⟩
theorem scIsh : FnScope ["readers", "value"] ["readers", "value"] (defScope sIsh) := ⟨rfl, rfl, rfl, by decide +kernel, rfl, by decide +kernel, by decide +kernel⟩
theorem scRequireHistory : FnScope ["readers", "history"] ["readers", "history"] (defScope sRequireHistory) := ⟨rfl, rfl, rfl, by decide +kernel, rfl, by decide +kernel, by decide +kernel⟩
theorem scPositionsAfter : FnScope ["readers", "history", "positions", "reader"] ["readers", "history"] (defScope sPositionsAfter) := ⟨rfl, rfl, rfl, by decide +kernel, rfl, by decide +kernel, by decide +kernel⟩
theorem scRanksOf : FnScope ["readers", "history", "positions", "ranks", "reader", "own", "position"] ["readers", "history"] (defScope sRanksOf) := ⟨rfl, rfl, rfl, by decide +kernel, rfl, by decide +kernel, by decide +kernel⟩
theorem scChangeOfRank : FnScope ["readers", "rank"] ["readers", "rank"] (defScope sChangeOfRank) := ⟨rfl, rfl, rfl, by decide +kernel, rfl, by decide +kernel, by decide +kernel⟩
theorem scChangesOf : FnScope ["readers", "history", "rank"] ["readers", "history"] (defScope sChangesOf) := ⟨rfl, rfl, rfl, by decide +kernel, rfl, by decide +kernel, by decide +kernel⟩
theorem scRecordOf : FnScope ["readers", "history"] ["readers", "history"] (defScope sRecordOf) := ⟨rfl, rfl, rfl, by decide +kernel, rfl, by decide +kernel, by decide +kernel⟩
theorem scGreatestSize : FnScope ["readers", "history", "size", "greatest", "change"] ["readers", "history"] (defScope sGreatestSize) := ⟨rfl, rfl, rfl, by decide +kernel, rfl, by decide +kernel, by decide +kernel⟩
theorem scKeepsOrder : FnScope ["readers", "ranks", "counts", "rank"] ["readers", "ranks"] (defScope sKeepsOrder) := ⟨rfl, rfl, rfl, by decide +kernel, rfl, by decide +kernel, by decide +kernel⟩
theorem scIsRanks : FnScope ["readers", "value"] ["readers", "value"] (defScope sIsRanks) := ⟨rfl, rfl, rfl, by decide +kernel, rfl, by decide +kernel, by decide +kernel⟩
theorem scHistoryBy : FnScope ["readers", "ranks", "positions", "state", "history", "rank", "reader"] ["readers", "ranks"] (defScope sHistoryBy) := ⟨rfl, rfl, rfl, by decide +kernel, rfl, by decide +kernel, by decide +kernel⟩
theorem scRel : FnScope ["script", "stir", "cell", "great"] ["script"] (defScope sRel) := ⟨rfl, rfl, rfl, by decide +kernel, rfl, by decide +kernel, by decide +kernel⟩
theorem scDrw : FnScope ["reel", "many", "rest", "extra", "stir"] ["reel", "many"] (defScope sDrw) := ⟨rfl, rfl, rfl, by decide +kernel, rfl, by decide +kernel, by decide +kernel⟩
theorem scHis : FnScope ["reel", "readers", "many", "way", "found", "turn", "reader"] ["reel", "readers", "many"] (defScope sHis) := ⟨rfl, rfl, rfl, by decide +kernel, rfl, by decide +kernel, by decide +kernel⟩
theorem scLawShuffled : FnScope ["reel", "values", "left", "value"] ["reel", "values"] (defScope sLawShuffled) := ⟨rfl, rfl, rfl, by decide +kernel, rfl, by decide +kernel, by decide +kernel⟩
theorem scLaw : FnScope ["script", "reel", "k", "readers", "history", "ranks", "record", "rank", "changes", "places", "sizes", "change", "names", "reader", "other", "found", "more"] ["script"] (defScope sLaw) := ⟨rfl, rfl, rfl, by decide +kernel, rfl, by decide +kernel, by decide +kernel⟩
structure Bl (mg : Str → Option Value) : Prop where
  isi : mg "isinstance" = none
  int : mg "int" = none
  bool : mg "bool" = none
  list : mg "list" = none
  tuple : mg "tuple" = none
  len : mg "len" = none
  all : mg "all" = none
  range : mg "range" = none
  repr : mg "repr" = none
  min : mg "min" = none
  max : mg "max" = none
  sum : mg "sum" = none
def intB (d : PyData) (lo hi : Int) : Bool := match d with
  | .int i => decide (lo ≤ i) && decide (i ≤ hi)
  | _ => false
def wIib : Wp := fun as Q => ∃ d lo hi, as = [.dat d, .dat (.int lo), .dat (.int hi)] ∧ Q (.bool (intB d lo hi))
def isIntD : PyData → Bool
  | .int _ => true
  | .bool _ => true
  | _ => false
def isBoolD : PyData → Bool
  | .bool _ => true
  | _ => false
def isListD : PyData → Bool
  | .list _ => true
  | _ => false
def isTupD : PyData → Bool
  | .tuple _ => true
  | _ => false
theorem kit_int : ∀ d : PyData, kitB (tyName d) "int" = some (isIntD d)
  | .none => (by decide +kernel : kitB "NoneType" "int" = some false)
  | .bool _ => (by decide +kernel : kitB "bool" "int" = some true)
  | .int _ => (by decide +kernel : kitB "int" "int" = some true)
  | .str _ => (by decide +kernel : kitB "str" "int" = some false)
  | .list _ => (by decide +kernel : kitB "list" "int" = some false)
  | .tuple _ => (by decide +kernel : kitB "tuple" "int" = some false)
  | .dict _ => (by decide +kernel : kitB "dict" "int" = some false)
theorem kit_bool : ∀ d : PyData, kitB (tyName d) "bool" = some (isBoolD d)
  | .none => (by decide +kernel : kitB "NoneType" "bool" = some false)
  | .bool _ => (by decide +kernel : kitB "bool" "bool" = some true)
  | .int _ => (by decide +kernel : kitB "int" "bool" = some false)
  | .str _ => (by decide +kernel : kitB "str" "bool" = some false)
  | .list _ => (by decide +kernel : kitB "list" "bool" = some false)
  | .tuple _ => (by decide +kernel : kitB "tuple" "bool" = some false)
  | .dict _ => (by decide +kernel : kitB "dict" "bool" = some false)
theorem kit_list : ∀ d : PyData, kitB (tyName d) "list" = some (isListD d)
  | .none => (by decide +kernel : kitB "NoneType" "list" = some false)
  | .bool _ => (by decide +kernel : kitB "bool" "list" = some false)
  | .int _ => (by decide +kernel : kitB "int" "list" = some false)
  | .str _ => (by decide +kernel : kitB "str" "list" = some false)
  | .list _ => (by decide +kernel : kitB "list" "list" = some true)
  | .tuple _ => (by decide +kernel : kitB "tuple" "list" = some false)
  | .dict _ => (by decide +kernel : kitB "dict" "list" = some false)
theorem kit_tup : ∀ d : PyData, kitB (tyName d) "tuple" = some (isTupD d)
  | .none => (by decide +kernel : kitB "NoneType" "tuple" = some false)
  | .bool _ => (by decide +kernel : kitB "bool" "tuple" = some false)
  | .int _ => (by decide +kernel : kitB "int" "tuple" = some false)
  | .str _ => (by decide +kernel : kitB "str" "tuple" = some false)
  | .list _ => (by decide +kernel : kitB "list" "tuple" = some false)
  | .tuple _ => (by decide +kernel : kitB "tuple" "tuple" = some true)
  | .dict _ => (by decide +kernel : kitB "dict" "tuple" = some false)
def seqLe (d : PyData) (m : Int) : Bool := match d with
  | .list xs => decide ((xs.length : Int) ≤ m)
  | .tuple xs => decide ((xs.length : Int) ≤ m)
  | _ => false
def items : PyData → List PyData
  | .list xs => xs
  | .tuple xs => xs
  | _ => []
def wIlu : Wp := fun as Q => ∃ d m, as = [.dat d, .dat (.int m)] ∧ Q (.bool (seqLe d m))
def wAib : Wp := fun as Q => ∃ d m lo hi, as = [.dat d, .dat (.int m), .dat (.int lo), .dat (.int hi)] ∧ m ≤ 1000000 ∧ Q (.bool (seqLe d m && (items d).all fun x => intB x lo hi))
def wRqr : Wp := fun as Q => ∃ r m : Int, as = [.dat (.int r), .dat (.int m)] ∧ 1 ≤ r ∧ r ≤ m ∧ Q .none
def histB (r : Int) (d : PyData) : Bool := seqLe d 400 && (items d).all fun x => intB x 0 (r - 1)
def wIsh : Wp := fun as Q => ∃ (r : Int) (d : PyData), as = [.dat (.int r), .dat d] ∧ 1 ≤ r ∧ r ≤ 200 ∧ Q (.bool (histB r d))
section
variable {P : Program} {w : World} {K : PySem.W.Frag} {mg : Str → Option Value} {base : Heap}
local macro_rules | `(tactic| walk_at "nm") => `(tactic| first | ((with_reducible show WE _ (Expr.Name "value" _) _ _); refine we_name 0 rfl (by walk_at "vis") rfl ?_) | ((with_reducible show WE _ (Expr.Name "least" _) _ _); refine we_name 1 rfl (by walk_at "vis") rfl ?_) | ((with_reducible show WE _ (Expr.Name "greatest" _) _ _); refine we_name 2 rfl (by walk_at "vis") rfl ?_))
local macro_rules | `(tactic| walk_at "no") => `(tactic| first | ((with_reducible show WO _ (Expr.Name "value" _) _ _); refine wo_own 0 rfl (by walk_at "vis") rfl ?_) | ((with_reducible show WO _ (Expr.Name "least" _) _ _); refine wo_own 1 rfl (by walk_at "vis") rfl ?_) | ((with_reducible show WO _ (Expr.Name "greatest" _) _ _); refine wo_own 2 rfl (by walk_at "vis") rfl ?_))
local macro_rules | `(tactic| walk_at "rel") => `(tactic| first | ((with_reducible show WG _ (Expr.Name "value" _ :: _) _ _); refine wg_rel 0 rfl (by walk_at "vis") rfl ?_) | ((with_reducible show WG _ (Expr.Name "least" _ :: _) _ _); refine wg_rel 1 rfl (by walk_at "vis") rfl ?_) | ((with_reducible show WG _ (Expr.Name "greatest" _ :: _) _ _); refine wg_rel 2 rfl (by walk_at "vis") rfl ?_))
local macro_rules | `(tactic| walk_at "set") => `(tactic| first | ((with_reducible show W1 _ (Stmt.Assign [Expr.Name "value" _] _ _) _ _); refine w1_set 0 ?_ rfl (by walk_at "loc") (Or.inl rfl)) | ((with_reducible show W1 _ (Stmt.Assign [Expr.Name "least" _] _ _) _ _); refine w1_set 1 ?_ rfl (by walk_at "loc") (Or.inl rfl)) | ((with_reducible show W1 _ (Stmt.Assign [Expr.Name "greatest" _] _ _) _ _); refine w1_set 2 ?_ rfl (by walk_at "loc") (Or.inl rfl)))
local macro_rules | `(tactic| walk_at "app") => `(tactic| first | ((with_reducible show W1 _ (Stmt.Expr (Expr.Call (Expr.Attribute (Expr.Name "value" _) _ _) _ _ _) _) _ _); refine w1_append 0 rfl ?_ rfl (by walk_at "vis")) | ((with_reducible show W1 _ (Stmt.Expr (Expr.Call (Expr.Attribute (Expr.Name "least" _) _ _) _ _ _) _) _ _); refine w1_append 1 rfl ?_ rfl (by walk_at "vis")) | ((with_reducible show W1 _ (Stmt.Expr (Expr.Call (Expr.Attribute (Expr.Name "greatest" _) _ _) _ _ _) _) _ _); refine w1_append 2 rfl ?_ rfl (by walk_at "vis")))
local macro_rules | `(tactic| walk_at "sto") => `(tactic| first | ((with_reducible show W1 _ (Stmt.Assign [Expr.Subscript (Expr.Name "value" _) _ _] _ _) _ _); refine w1_store 0 rfl ?_ rfl (by walk_at "vis")) | ((with_reducible show W1 _ (Stmt.Assign [Expr.Subscript (Expr.Name "least" _) _ _] _ _) _ _); refine w1_store 1 rfl ?_ rfl (by walk_at "vis")) | ((with_reducible show W1 _ (Stmt.Assign [Expr.Subscript (Expr.Name "greatest" _) _ _] _ _) _ _); refine w1_store 2 rfl ?_ rfl (by walk_at "vis")))
local macro_rules | `(tactic| walk_at "tg") => `(tactic| first | ((with_reducible show WTg _ (Expr.Name "value" _) _ _ _ _); refine wtg_name 0 rfl (by walk_at "loc") (by walk_at "loc") ?_) | ((with_reducible show WTg _ (Expr.Name "least" _) _ _ _ _); refine wtg_name 1 rfl (by walk_at "loc") (by walk_at "loc") ?_) | ((with_reducible show WTg _ (Expr.Name "greatest" _) _ _ _ _); refine wtg_name 2 rfl (by walk_at "loc") (by walk_at "loc") ?_))

theorem ws_iib {k : Nat} (B : Bl mg) (as : List SV) (Q : PyData → Prop) (h : wIib as Q) :
    WS ⟨P, w, K, mg, base, ["value", "least", "greatest"], defScope sIib, fun _ => true, k⟩ (defBody sIib) (startR ["value", "least", "greatest"] as) (endR Q) := by
  obtain ⟨mi, mn, mb, mls, mt, ml, ma, mr, mre, mmi, mma, ms⟩ := B
  obtain ⟨d, lo, hi, rfl, q⟩ := h
  iterate 5 walk_at "s"
  refine ⟨_, kit_int d, _, rfl, fun h1 => ?_, fun h1 => ?_⟩
  · iterate 4 walk_at "s"
    refine ⟨_, kit_bool d, _, rfl, _, rfl, fun h2 => ?_, fun h2 => ?_⟩
    · cases d with
      | int i =>
        walk_at "s"
        refine we_chain ?_
        iterate 4 walk_at "s"
        walk_at "cl"
        refine ⟨fun h3 => ?_, fun h3 => ?_⟩
        · walk_at "s"
          walk_at "s"
          show Q _
          have e : intB (.int i) lo hi = decide (i ≤ hi) := by simp only [intB, h3, Bool.true_and]
          rw [e] at q
          exact q
        · have e : intB (.int i) lo hi = false := by simp only [intB, h3, Bool.false_and]
          rw [e] at q
          exact q
      | _ => simp [isIntD, isBoolD] at h1 h2
    · cases d <;> first | exact q | simp [isIntD, isBoolD] at h1 h2
  · cases d <;> first | exact q | simp [isIntD] at h1
local macro_rules | `(tactic| walk_at "nm") => `(tactic| first | ((with_reducible show WE _ (Expr.Name "value" _) _ _); refine we_name 0 rfl (by walk_at "vis") rfl ?_) | ((with_reducible show WE _ (Expr.Name "most" _) _ _); refine we_name 1 rfl (by walk_at "vis") rfl ?_))
local macro_rules | `(tactic| walk_at "no") => `(tactic| first | ((with_reducible show WO _ (Expr.Name "value" _) _ _); refine wo_own 0 rfl (by walk_at "vis") rfl ?_) | ((with_reducible show WO _ (Expr.Name "most" _) _ _); refine wo_own 1 rfl (by walk_at "vis") rfl ?_))
local macro_rules | `(tactic| walk_at "rel") => `(tactic| first | ((with_reducible show WG _ (Expr.Name "value" _ :: _) _ _); refine wg_rel 0 rfl (by walk_at "vis") rfl ?_) | ((with_reducible show WG _ (Expr.Name "most" _ :: _) _ _); refine wg_rel 1 rfl (by walk_at "vis") rfl ?_))
local macro_rules | `(tactic| walk_at "set") => `(tactic| first | ((with_reducible show W1 _ (Stmt.Assign [Expr.Name "value" _] _ _) _ _); refine w1_set 0 ?_ rfl (by walk_at "loc") (Or.inl rfl)) | ((with_reducible show W1 _ (Stmt.Assign [Expr.Name "most" _] _ _) _ _); refine w1_set 1 ?_ rfl (by walk_at "loc") (Or.inl rfl)))
local macro_rules | `(tactic| walk_at "app") => `(tactic| first | ((with_reducible show W1 _ (Stmt.Expr (Expr.Call (Expr.Attribute (Expr.Name "value" _) _ _) _ _ _) _) _ _); refine w1_append 0 rfl ?_ rfl (by walk_at "vis")) | ((with_reducible show W1 _ (Stmt.Expr (Expr.Call (Expr.Attribute (Expr.Name "most" _) _ _) _ _ _) _) _ _); refine w1_append 1 rfl ?_ rfl (by walk_at "vis")))
local macro_rules | `(tactic| walk_at "sto") => `(tactic| first | ((with_reducible show W1 _ (Stmt.Assign [Expr.Subscript (Expr.Name "value" _) _ _] _ _) _ _); refine w1_store 0 rfl ?_ rfl (by walk_at "vis")) | ((with_reducible show W1 _ (Stmt.Assign [Expr.Subscript (Expr.Name "most" _) _ _] _ _) _ _); refine w1_store 1 rfl ?_ rfl (by walk_at "vis")))
local macro_rules | `(tactic| walk_at "tg") => `(tactic| first | ((with_reducible show WTg _ (Expr.Name "value" _) _ _ _ _); refine wtg_name 0 rfl (by walk_at "loc") (by walk_at "loc") ?_) | ((with_reducible show WTg _ (Expr.Name "most" _) _ _ _ _); refine wtg_name 1 rfl (by walk_at "loc") (by walk_at "loc") ?_))

theorem ws_ilu {k : Nat} (B : Bl mg) (as : List SV) (Q : PyData → Prop) (h : wIlu as Q) :
    WS ⟨P, w, K, mg, base, ["value", "most"], defScope sIlu, fun _ => true, k⟩ (defBody sIlu) (startR ["value", "most"] as) (endR Q) := by
  obtain ⟨mi, mn, mb, mls, mt, ml, ma, mr, mre, mmi, mma, ms⟩ := B
  obtain ⟨d, m, rfl, q⟩ := h
  iterate 5 walk_at "s"
  refine ⟨_, _, kit_list d, kit_tup d, _, rfl, fun h1 => ?_, fun h1 => ?_⟩
  · repeat walk_at "s"
    cases d with
    | list xs =>
      show WO _ _ _ _
      iterate 2 walk_at "s"
      exact q
    | tuple xs =>
      show WO _ _ _ _
      iterate 2 walk_at "s"
      exact q
    | _ => simp [isListD, isTupD] at h1
  · cases d <;> first | exact q | simp [isListD, isTupD] at h1
end

/-! ### runs, records -/
def runB : PyData → Bool
  | .list [c, n] => intB c (-1) 1 && intB n 1 1000000000000000000000000000000
  | .tuple [c, n] => intB c (-1) 1 && intB n 1 1000000000000000000000000000000
  | _ => false
def headI (d : PyData) : Int := match items d with
  | .int c :: _ => c
  | _ => 0
def diffB (xs : List PyData) : Bool := (xs.zip (xs.drop 1)).all fun q => !(headI q.1 == headI q.2)
def recB (d : PyData) : Bool := seqLe d 400 && ((items d).all runB && diffB (items d))
def wRun : Wp := fun as Q => ∃ d, as = [.dat d] ∧ Q (.bool (runB d))
def wRec : Wp := fun as Q => ∃ d, as = [.dat d] ∧ Q (.bool (recB d))
theorem runB_of {d : PyData} {c n : PyData} (h : items d = [c, n]) : runB d = (intB c (-1) 1 && intB n 1 1000000000000000000000000000000) := by
  cases d <;> simp only [items] at h <;> first | (subst h; rfl) | cases h
theorem runB_two {d : PyData} (h : runB d = true) : ∃ c n : Int, items d = [.int c, .int n] ∧ (d = .list [.int c, .int n] ∨ d = .tuple [.int c, .int n]) ∧ -1 ≤ c ∧ c ≤ 1 ∧ 1 ≤ n ∧ n ≤ 1000000000000000000000000000000 := by
  have key : ∀ c n : PyData, (intB c (-1) 1 && intB n 1 1000000000000000000000000000000) = true → ∃ i j : Int, c = .int i ∧ n = .int j ∧ -1 ≤ i ∧ i ≤ 1 ∧ 1 ≤ j ∧ j ≤ 1000000000000000000000000000000 := fun c n h => by
    obtain ⟨h1, h2⟩ := Bool.and_eq_true_iff.mp h
    cases c with
    | int i =>
      cases n with
      | int j =>
        obtain ⟨a, b⟩ := Bool.and_eq_true_iff.mp (show (decide (-1 ≤ i) && decide (i ≤ 1)) = true from h1)
        obtain ⟨a2, b2⟩ := Bool.and_eq_true_iff.mp (show (decide (1 ≤ j) && decide (j ≤ 1000000000000000000000000000000)) = true from h2)
        exact ⟨i, j, rfl, rfl, of_decide_eq_true a, of_decide_eq_true b, of_decide_eq_true a2, of_decide_eq_true b2⟩
      | _ => cases h2
    | _ => cases h1
  unfold runB at h
  split at h
  · obtain ⟨i, j, rfl, rfl, q⟩ := key _ _ h
    exact ⟨i, j, rfl, .inl rfl, q⟩
  · obtain ⟨i, j, rfl, rfl, q⟩ := key _ _ h
    exact ⟨i, j, rfl, .inr rfl, q⟩
  · cases h
theorem seq_split (d : PyData) : (∃ xs, d = .list xs) ∨ (∃ xs, d = .tuple xs) ∨ ((∀ m, seqLe d m = false) ∧ items d = [] ∧ runB d = false) := by
  cases d with
  | list xs => exact .inl ⟨xs, rfl⟩
  | tuple xs => exact .inr (.inl ⟨xs, rfl⟩)
  | _ => exact .inr (.inr ⟨fun _ => rfl, rfl, rfl⟩)
section
variable {P : Program} {w : World} {K : PySem.W.Frag} {mg : Str → Option Value} {base : Heap}
local macro_rules | `(tactic| walk_at "nm") => `(tactic| first | ((with_reducible show WE _ (Expr.Name "value" _) _ _); refine we_name 0 rfl (by walk_at "vis") rfl ?_))
local macro_rules | `(tactic| walk_at "no") => `(tactic| first | ((with_reducible show WO _ (Expr.Name "value" _) _ _); refine wo_own 0 rfl (by walk_at "vis") rfl ?_))
local macro_rules | `(tactic| walk_at "rel") => `(tactic| first | ((with_reducible show WG _ (Expr.Name "value" _ :: _) _ _); refine wg_rel 0 rfl (by walk_at "vis") rfl ?_))
local macro_rules | `(tactic| walk_at "set") => `(tactic| first | ((with_reducible show W1 _ (Stmt.Assign [Expr.Name "value" _] _ _) _ _); refine w1_set 0 ?_ rfl (by walk_at "loc") (Or.inl rfl)))
local macro_rules | `(tactic| walk_at "app") => `(tactic| first | ((with_reducible show W1 _ (Stmt.Expr (Expr.Call (Expr.Attribute (Expr.Name "value" _) _ _) _ _ _) _) _ _); refine w1_append 0 rfl ?_ rfl (by walk_at "vis")))
local macro_rules | `(tactic| walk_at "sto") => `(tactic| first | ((with_reducible show W1 _ (Stmt.Assign [Expr.Subscript (Expr.Name "value" _) _ _] _ _) _ _); refine w1_store 0 rfl ?_ rfl (by walk_at "vis")))
local macro_rules | `(tactic| walk_at "tg") => `(tactic| first | ((with_reducible show WTg _ (Expr.Name "value" _) _ _ _ _); refine wtg_name 0 rfl (by walk_at "loc") (by walk_at "loc") ?_))

local macro_rules | `(tactic| walk_at "fn") => `(tactic| first | ((with_reducible show WE _ (Expr.Call (Expr.Name "is_list_up_to" _) _ _ _) _ _); refine we_call (by with_reducible assumption) (by dsimp only; omega) ?_) | ((with_reducible show WE _ (Expr.Call (Expr.Name "is_integer_between" _) _ _ _) _ _); refine we_call (by with_reducible assumption) (by dsimp only; omega) ?_))

local macro_rules | `(tactic| walk_at "nm") => `(tactic| ((with_reducible show WE _ (Expr.Name "MOST_COUNT" _) _ _); refine we_globI (by with_reducible assumption) ?_))

theorem ws_run {k : Nat} (B : Bl mg) (hk : 1 ≤ k) (hIlu : Has P w K mg base "is_list_up_to" 1 wIlu) (hIib : Has P w K mg base "is_integer_between" 1 wIib) {t1 : Tok} (g1 : mg "MOST_COUNT" = some (.int 1000000000000000000000000000000 t1)) (as : List SV) (Q : PyData → Prop) (h : wRun as Q) :
    WS ⟨P, w, K, mg, base, ["value"], defScope sRun, fun _ => true, k⟩ (defBody sRun) (startR ["value"] as) (endR Q) := by
  obtain ⟨mi, mn, mb, mls, mt, ml, ma, mr, mre, mmi, mma, ms⟩ := B
  obtain ⟨d, rfl, q⟩ := h
  rcases seq_split d with ⟨xs, rfl⟩ | ⟨xs, rfl⟩ | ⟨h1, _, e⟩
  · repeat walk_at "s"
    refine ⟨_, 2, rfl, _, rfl, fun h1 => ?_, fun h1 => ?_⟩
    · repeat walk_at "s"
      · rename_i h2
        have h2 : xs.length = 2 := by
          have : ((xs.length : Int) == 2) = true := by
            cases z : ((xs.length : Int) == 2) with
            | true => rfl
            | false => rw [show PyData.eqv (.int (xs.length : Int)) (.int 2) = ((xs.length : Int) == 2) from rfl, z] at h2; cases h2
          have := eq_of_beq this
          omega
        obtain ⟨c, n, rfl⟩ : ∃ c n, xs = [c, n] := by
          cases xs with
          | nil => cases h2
          | cons c t =>
            cases t with
            | nil => cases h2
            | cons n t =>
              cases t with
              | nil => exact ⟨c, n, rfl⟩
              | cons _ _ => simp at h2
        refine ⟨c, rfl, ?_⟩
        repeat walk_at "s"
        refine ⟨c, -1, 1, rfl, _, rfl, fun z => ?_, fun z => ?_⟩
        · repeat walk_at "s"
          refine ⟨n, 1, 1000000000000000000000000000000, rfl, ?_⟩
          rw [show runB (.list [c, n]) = (intB c (-1) 1 && intB n 1 1000000000000000000000000000000) from rfl, z, Bool.true_and] at q
          exact q
        · rw [show runB (.list [c, n]) = (intB c (-1) 1 && intB n 1 1000000000000000000000000000000) from rfl, z, Bool.false_and] at q
          exact q
      · rename_i h2
        have e : runB (.list xs) = false := by
          cases hr : runB (.list xs) with
          | false => rfl
          | true =>
            obtain ⟨c, n, e, _⟩ := runB_two hr
            have e : xs = [.int c, .int n] := e
            subst e
            cases h2
        rw [e] at q
        exact q
    · have e : runB (.list xs) = false := by
        cases hr : runB (.list xs) with
        | false => rfl
        | true =>
          obtain ⟨c, n, e, _⟩ := runB_two hr
          have e : xs = [.int c, .int n] := e
          rw [e] at h1
          cases h1
      rw [e] at q
      refine ⟨fun _ => ?_, fun z => (by cases z)⟩
      repeat walk_at "s"
      exact q
  · repeat walk_at "s"
    refine ⟨_, 2, rfl, _, rfl, fun h1 => ?_, fun h1 => ?_⟩
    · repeat walk_at "s"
      · rename_i h2
        have h2 : xs.length = 2 := by
          have : ((xs.length : Int) == 2) = true := by
            cases z : ((xs.length : Int) == 2) with
            | true => rfl
            | false => rw [show PyData.eqv (.int (xs.length : Int)) (.int 2) = ((xs.length : Int) == 2) from rfl, z] at h2; cases h2
          have := eq_of_beq this
          omega
        obtain ⟨c, n, rfl⟩ : ∃ c n, xs = [c, n] := by
          cases xs with
          | nil => cases h2
          | cons c t =>
            cases t with
            | nil => cases h2
            | cons n t =>
              cases t with
              | nil => exact ⟨c, n, rfl⟩
              | cons _ _ => simp at h2
        refine ⟨c, rfl, ?_⟩
        repeat walk_at "s"
        refine ⟨c, -1, 1, rfl, _, rfl, fun z => ?_, fun z => ?_⟩
        · repeat walk_at "s"
          refine ⟨n, 1, 1000000000000000000000000000000, rfl, ?_⟩
          rw [show runB (.tuple [c, n]) = (intB c (-1) 1 && intB n 1 1000000000000000000000000000000) from rfl, z, Bool.true_and] at q
          exact q
        · rw [show runB (.tuple [c, n]) = (intB c (-1) 1 && intB n 1 1000000000000000000000000000000) from rfl, z, Bool.false_and] at q
          exact q
      · rename_i h2
        have e : runB (.tuple xs) = false := by
          cases hr : runB (.tuple xs) with
          | false => rfl
          | true =>
            obtain ⟨c, n, e, _⟩ := runB_two hr
            have e : xs = [.int c, .int n] := e
            subst e
            cases h2
        rw [e] at q
        exact q
    · have e : runB (.tuple xs) = false := by
        cases hr : runB (.tuple xs) with
        | false => rfl
        | true =>
          obtain ⟨c, n, e, _⟩ := runB_two hr
          have e : xs = [.int c, .int n] := e
          rw [e] at h1
          cases h1
      rw [e] at q
      refine ⟨fun _ => ?_, fun z => (by cases z)⟩
      repeat walk_at "s"
      exact q
  · rw [e] at q
    repeat walk_at "s"
    refine ⟨_, 2, rfl, _, rfl, fun z => ?_, fun _ => ?_⟩
    · rw [h1] at z
      cases z
    · skip
      refine ⟨fun _ => ?_, fun z => (by cases z)⟩
      repeat walk_at "s"
      exact q
end

/-! ### lists of numbers of readers, of ranks -/
def natD (n : Nat) : PyData := .int (n : Int)
def IsSeq (d : PyData) (xs : List PyData) : Prop := d = .list xs ∨ d = .tuple xs
theorem natD_map (hs : List Nat) : hs.map natD = (hs.map fun h => ((h : Nat) : Int)).map PyData.int := by rw [List.map_map]; rfl
theorem natD_get {hs : List Nat} {i : Nat} {d : PyData} (h : (hs.map natD)[i]? = some d) : ∃ n, hs[i]? = some n ∧ d = natD n := by
  rw [List.getElem?_map] at h
  cases z : hs[i]? with
  | none => rw [z] at h; cases h
  | some n => rw [z] at h; cases h; exact ⟨n, rfl, rfl⟩
theorem seq_items {d : PyData} {xs : List PyData} (h : IsSeq d xs) : items d = xs := by rcases h with rfl | rfl <;> rfl
theorem hist_seq {r : Nat} {d : PyData} {hs : List Nat} (h : IsSeq d (hs.map natD)) (hl : hs.length ≤ 400) (hh : ∀ h ∈ hs, h < r) : histB (r : Int) d = true := by
  have e1 : seqLe d 400 = true := by
    rcases h with rfl | rfl <;> exact decide_eq_true (by rw [List.length_map]; omega)
  show (_ && _) = true
  rw [e1, seq_items h, Bool.true_and, List.all_eq_true]
  intro x hx
  obtain ⟨n, hn, rfl⟩ := List.mem_map.mp hx
  have := hh n hn
  show (decide ((0 : Int) ≤ n) && decide ((n : Int) ≤ r - 1)) = true
  rw [decide_eq_true (by omega), decide_eq_true (by omega)]
  rfl
def natsOf (d : PyData) : List Nat := (items d).map fun x => match x with
  | .int i => i.toNat
  | _ => 0
theorem hist_nats {r : Int} {d : PyData} (h : histB r d = true) : IsSeq d ((natsOf d).map natD) ∧ (natsOf d).length ≤ 400 ∧ ∀ h ∈ natsOf d, (h : Int) < r := by
  obtain ⟨h1, h2⟩ := Bool.and_eq_true_iff.mp (show (seqLe d 400 && (items d).all fun x => intB x 0 (r - 1)) = true from h)
  rw [List.all_eq_true] at h2
  have e : ∀ x ∈ items d, ∃ i : Int, x = .int i ∧ 0 ≤ i ∧ i < r := fun x hx => by
    have := h2 x hx
    cases x with
    | int i =>
      obtain ⟨a, b⟩ := Bool.and_eq_true_iff.mp (show (decide (0 ≤ i) && decide (i ≤ r - 1)) = true from this)
      have a := of_decide_eq_true a
      have b := of_decide_eq_true b
      exact ⟨i, rfl, a, by omega⟩
    | _ => cases this
  have em : (natsOf d).map natD = items d := by
    unfold natsOf
    rw [List.map_map]
    conv => rhs; rw [← List.map_id (items d)]
    refine List.map_congr_left fun x hx => ?_
    obtain ⟨i, rfl, h0, _⟩ := e x hx
    show PyData.int ((i.toNat : Nat) : Int) = .int i
    rw [Int.toNat_of_nonneg h0]
  have el : (natsOf d).length = (items d).length := by unfold natsOf; rw [List.length_map]
  refine ⟨?_, ?_, fun n hn => ?_⟩
  · rw [em]
    cases d with
    | list xs => exact .inl rfl
    | tuple xs => exact .inr rfl
    | _ => cases h1
  · rw [el]
    cases d with
    | list xs => have := of_decide_eq_true h1; show xs.length ≤ 400; omega
    | tuple xs => have := of_decide_eq_true h1; show xs.length ≤ 400; omega
    | _ => cases h1
  · obtain ⟨x, hx, rfl⟩ := List.mem_map.mp hn
    obtain ⟨i, rfl, h0, h3⟩ := e x hx
    show ((i.toNat : Nat) : Int) < r
    rw [Int.toNat_of_nonneg h0]
    exact h3
theorem nats_seq {d : PyData} {hs : List Nat} (h : IsSeq d (hs.map natD)) : natsOf d = hs := by
  unfold natsOf
  rw [seq_items h, List.map_map]
  conv => rhs; rw [← List.map_id hs]
  exact List.map_congr_left fun x _ => by show ((x : Nat) : Int).toNat = x; exact Int.toNat_natCast x
/-! ### the greatest, the least -/
def maxI (l : List Int) : Int := (l.max?).getD 0
def minI (l : List Int) : Int := (l.min?).getD 0
theorem maxI_eq {l : List Int} {m : Int} (h : m ∈ l) (hm : ∀ y ∈ l, y ≤ m) : maxI l = m := by
  unfold maxI
  rw [List.max?_eq_some_iff.mpr ⟨h, hm⟩]
  rfl
theorem minI_eq {l : List Int} {m : Int} (h : m ∈ l) (hm : ∀ y ∈ l, m ≤ y) : minI l = m := by
  unfold minI
  rw [List.min?_eq_some_iff.mpr ⟨h, hm⟩]
  rfl
def spread (l : List Int) : Int := maxI l - minI l
/-- what a read does: its rank, the change, the size behind it -/
def stepD (l : List Int) (h : Nat) : PyData := .tuple [natD (gt l (l.getD h 0)), .int (spread (bump l h) - spread l), .int (spread (bump l h))]
def stepsFrom : List Int → List Nat → List PyData
  | _, [] => []
  | l, h :: hs => stepD l h :: stepsFrom (bump l h) hs
theorem stepsFrom_snoc (l : List Int) (hs : List Nat) (h : Nat) : stepsFrom l (hs ++ [h]) = stepsFrom l hs ++ [stepD (bumps l hs) h] := by
  induction hs generalizing l with
  | nil => rfl
  | cons a hs ih => show stepD l a :: stepsFrom (bump l a) (hs ++ [h]) = _; rw [ih]; rfl
theorem stepsFrom_len (l : List Int) (hs : List Nat) : (stepsFrom l hs).length = hs.length := by
  induction hs generalizing l with
  | nil => rfl
  | cons a hs ih => show (stepsFrom (bump l a) hs).length + 1 = _; rw [ih]; rfl
def firstD (d : PyData) : PyData := match d with
  | .tuple (x :: _) => x
  | _ => .none
theorem steps_mem {y : PyData} : ∀ {hs : List Nat} {l : List Int}, y ∈ stepsFrom l hs → ∃ l' h, y = stepD l' h
  | [], _, hm => by cases hm
  | a :: hs, l, hm => by
    rcases List.mem_cons.mp hm with e | hm
    · exact ⟨l, a, e⟩
    · exact steps_mem (hs := hs) hm
theorem stepsFrom_ranks (l : List Int) (hs : List Nat) : (stepsFrom l hs).map firstD = (ranksFrom l hs).map natD := by
  induction hs generalizing l with
  | nil => rfl
  | cons a hs ih => show _ :: (stepsFrom (bump l a) hs).map _ = _; rw [ih]; rfl
def gtP (x : Int) (d : PyData) : Bool := match d with
  | .int i => decide (x < i)
  | _ => false
theorem gtP_len (l : List Int) (x : Int) : (((l.map PyData.int).filter (gtP x)).map fun d => d).length = gt l x := by
  rw [List.length_map, List.filter_map, List.length_map]
  rfl
/-- ranks that keep the order, judged one by one -/
def okB : List Int → List Nat → Bool
  | _, [] => true
  | c, k :: ks => !(decide (0 < k) && (c.getD k 0 == c.getD (k - 1) 0)) && okB (bump c k) ks
theorem okB_iff {c : List Int} (hd : Dec c) {ks : List Nat} (hk : ∀ k ∈ ks, k < c.length) : okB c ks = true ↔ OkFrom c ks := by
  induction ks generalizing c with
  | nil => exact ⟨fun _ => trivial, fun _ => rfl⟩
  | cons k ks ih =>
    have hkl : k < c.length := hk k (by simp)
    have hx : c[k]? = some c[k] := List.getElem?_eq_getElem hkl
    have gx : c.getD k 0 = c[k] := by rw [List.getD_eq_getElem?_getD, hx]; rfl
    have step : (∀ x y, 0 < k → c[k]? = some x → c[k - 1]? = some y → x < y) → (okB (bump c k) ks = true ↔ OkFrom (bump c k) ks) := fun hlt => by
      refine ih ?_ fun a ha => by rw [bump_len]; exact hk a (by simp [ha])
      have R : Rel c c := ⟨rfl, fun _ => rfl, hd⟩
      rw [bump_at hx]
      exact (R.bump hx hx fun y h0 hy => hlt _ y h0 hx hy).dec
    have cond : (!(decide (0 < k) && (c.getD k 0 == c.getD (k - 1) 0))) = true ↔ ∀ x y, 0 < k → c[k]? = some x → c[k - 1]? = some y → x < y := by
      by_cases h0 : 0 < k
      · have hy : c[k - 1]? = some c[k - 1] := List.getElem?_eq_getElem (by omega)
        have gy : c.getD (k - 1) 0 = c[k - 1] := by rw [List.getD_eq_getElem?_getD, hy]; rfl
        have le := List.pairwise_iff_getElem.mp hd (k - 1) k (by omega) hkl (by omega)
        rw [gx, gy, decide_eq_true h0, Bool.true_and]
        constructor
        · intro h x y _ hx' hy'
          rw [hx] at hx'; rw [hy] at hy'; cases hx'; cases hy'
          have : ¬ (c[k] = c[k - 1]) := fun q => by rw [q] at h; simp at h
          omega
        · intro h
          have := h _ _ h0 hx hy
          have : ¬ (c[k] = c[k - 1]) := by omega
          simp [this]
      · rw [decide_eq_false h0]
        simp [h0]
    show (_ && okB (bump c k) ks) = true ↔ (k < c.length ∧ _ ∧ _)
    rw [Bool.and_eq_true_iff]
    constructor
    · rintro ⟨h1, h2⟩
      have := cond.mp h1
      exact ⟨hkl, this, (step this).mp h2⟩
    · rintro ⟨_, h1, h2⟩
      exact ⟨cond.mpr h1, (step h1).mpr h2⟩
theorem dec_zero (r : Nat) : Dec (List.replicate r 0) := (rel_start r).dec
theorem repl_ints (r : Nat) : (List.replicate r [PyData.int 0]).flatten = (List.replicate r (0 : Int)).map PyData.int := by
  induction r with
  | zero => rfl
  | succ r ih => rw [List.replicate_succ, List.flatten_cons, ih, List.replicate_succ]; rfl
theorem ints_at {l : List Int} {h : Nat} {x : Int} (e : l[h]? = some x) : atI (l.map PyData.int) (h : Int) = some (.int x) := atI_of (j := h) rfl (by rw [List.getElem?_map, e]; rfl)
theorem ixN_nat {n h : Nat} (e : h < n) : ixN n (h : Int) = some h := by
  unfold ixN
  rw [if_pos (by omega), if_pos (by omega), Int.toNat_natCast]

/-! ### drawn records -/
def runD (p : Int × Int) : PyData := .tuple [.int p.1, .int p.2]
structure RunsOk (most longest : Int) (rl : List (Int × Int)) : Prop where
  len : (rl.length : Int) ≤ most
  lo : ∀ p ∈ rl, -1 ≤ p.1 ∧ p.1 ≤ 1 ∧ 1 ≤ p.2 ∧ p.2 ≤ longest
  ne : ∀ i p q, rl[i]? = some p → rl[i + 1]? = some q → p.1 ≠ q.1
theorem depth_runs : ∀ rl : List (Int × Int), PyData.depthAll (rl.map runD) ≤ 3
  | [] => by simp [PyData.depthAll]
  | p :: rl => by
    have := depth_runs rl
    simp only [List.map_cons, runD, PyData.depthAll, PyData.depth]
    omega
theorem lay_runs : ∀ rl : List (Int × Int), PyData.canLayAll0 (rl.map runD) = true
  | [] => rfl
  | p :: rl => by
    show (PyData.canLay0 (runD p) && PyData.canLayAll0 (rl.map runD)) = true
    rw [lay_runs rl]
    rfl
theorem shaped_runs (rl : List (Int × Int)) : SeqAt.shaped (.list (rl.map runD)) = true := by
  unfold SeqAt.shaped
  have h := depth_runs rl
  have h2 : (PyData.list (rl.map runD)).depth ≤ 64 := by simp only [PyData.depth]; omega
  have h3 : (PyData.list (rl.map runD)).canLay0 = true := by simp only [PyData.canLay0, lay_runs]
  rw [h3, decide_eq_true h2]
  rfl
theorem eqv_nilR (rl : List (Int × Int)) : PyData.eqv (.list (rl.map runD)) (.list []) = rl.isEmpty := by cases rl <;> rfl
/-! ### runs made one -/
def addRun (rl : List (Int × Int)) (c n : Int) : List (Int × Int) := match rl.getLast? with
  | some p => if p.1 = c then rl.dropLast ++ [(c, p.2 + n)] else rl ++ [(c, n)]
  | none => [(c, n)]
def mergeL (rs : List (Int × Int)) : List (Int × Int) := rs.foldl (fun acc p => addRun acc p.1 p.2) []
def runsOf (cs : List Int) : List (Int × Int) := cs.foldl (fun acc c => addRun acc c 1) []
theorem mergeL_ones (cs : List Int) : mergeL (cs.map fun c => (c, 1)) = runsOf cs := by unfold mergeL runsOf; rw [List.foldl_map]
theorem mergeL_snoc (rs : List (Int × Int)) (p : Int × Int) : mergeL (rs ++ [p]) = addRun (mergeL rs) p.1 p.2 := by unfold mergeL; rw [List.foldl_append]; rfl
theorem runsOf_snoc (cs : List Int) (c : Int) : runsOf (cs ++ [c]) = addRun (runsOf cs) c 1 := by unfold runsOf; rw [List.foldl_append]; rfl
theorem snoc_cases {α : Type} (l : List α) : l = [] ∨ ∃ t a, l = t ++ [a] := by
  rcases List.eq_nil_or_concat l with h | ⟨t, a, h⟩
  · exact .inl h
  · exact .inr ⟨t, a, by rw [h, List.concat_eq_append]⟩
theorem snoc_ind {α : Type} {P : List α → Prop} (h0 : P []) (h1 : ∀ t a, P t → P (t ++ [a])) (l : List α) : P l := by
  have : ∀ r : List α, P r.reverse := fun r => by
    induction r with
    | nil => exact h0
    | cons a r ih => rw [List.reverse_cons]; exact h1 _ _ ih
  have := this l.reverse
  rwa [List.reverse_reverse] at this
theorem addRun_nil (c n : Int) : addRun [] c n = [(c, n)] := rfl
theorem addRun_same (t : List (Int × Int)) (c m n : Int) : addRun (t ++ [(c, m)]) c n = t ++ [(c, m + n)] := by
  unfold addRun
  rw [List.getLast?_concat, List.dropLast_concat]
  exact if_pos rfl
theorem addRun_other (t : List (Int × Int)) {c d : Int} (m n : Int) (h : d ≠ c) : addRun (t ++ [(d, m)]) c n = t ++ [(d, m)] ++ [(c, n)] := by
  unfold addRun
  rw [List.getLast?_concat]
  exact if_neg h
theorem addRun_len (rl : List (Int × Int)) (c n : Int) : (addRun rl c n).length ≤ rl.length + 1 := by
  rcases snoc_cases rl with rfl | ⟨t, ⟨d, m⟩, rfl⟩
  · exact Nat.le_refl _
  · by_cases h : d = c
    · subst h; rw [addRun_same]; simp
    · rw [addRun_other _ _ _ h]; simp
theorem mergeL_len (rs : List (Int × Int)) : (mergeL rs).length ≤ rs.length := by
  induction rs using snoc_ind with
  | h0 => exact Nat.le_refl _
  | h1 t p ih =>
    rw [mergeL_snoc]
    have := addRun_len (mergeL t) p.1 p.2
    simp only [List.length_append, List.length_singleton]
    omega
theorem runsOf_len (cs : List Int) : (runsOf cs).length ≤ cs.length := by
  rw [← mergeL_ones]
  have := mergeL_len (cs.map fun c => (c, (1 : Int)))
  rwa [List.length_map] at this
def expand (rl : List (Int × Int)) : List Int := (rl.map fun p => List.replicate p.2.toNat p.1).flatten
theorem expand_snoc (rl : List (Int × Int)) (p : Int × Int) : expand (rl ++ [p]) = expand rl ++ List.replicate p.2.toNat p.1 := by
  unfold expand
  rw [List.map_append, List.flatten_append]
  simp
theorem expand_add (rl : List (Int × Int)) {c n : Int} (hp : ∀ p ∈ rl, 0 ≤ p.2) (hn : 0 ≤ n) : expand (addRun rl c n) = expand rl ++ List.replicate n.toNat c := by
  rcases snoc_cases rl with rfl | ⟨t, ⟨d, m⟩, rfl⟩
  · simp [addRun_nil, expand]
  · have hm : 0 ≤ m := hp (d, m) (by simp)
    by_cases h : d = c
    · subst h
      rw [addRun_same, expand_snoc, expand_snoc, List.append_assoc, List.replicate_append_replicate]
      congr 2
      show (m + n).toNat = _
      omega
    · rw [addRun_other _ _ _ h, expand_snoc]
def total (rl : List (Int × Int)) : Int := (rl.map (·.2)).sum
theorem total_snoc (rl : List (Int × Int)) (p : Int × Int) : total (rl ++ [p]) = total rl + p.2 := by
  unfold total
  rw [List.map_append, List.sum_append]
  simp
theorem total_add (rl : List (Int × Int)) (c n : Int) : total (addRun rl c n) = total rl + n := by
  rcases snoc_cases rl with rfl | ⟨t, ⟨d, m⟩, rfl⟩
  · simp [addRun_nil, total]
  · by_cases h : d = c
    · subst h; rw [addRun_same, total_snoc, total_snoc]; show total t + (m + n) = total t + m + n; omega
    · rw [addRun_other _ _ _ h, total_snoc]
theorem total_expand {rl : List (Int × Int)} (hp : ∀ p ∈ rl, 0 ≤ p.2) : ((expand rl).length : Int) = total rl := by
  induction rl with
  | nil => rfl
  | cons p rl ih =>
    have h1 := hp p (by simp)
    have h2 := ih fun q hq => hp q (List.mem_cons_of_mem _ hq)
    have e1 : expand (p :: rl) = List.replicate p.2.toNat p.1 ++ expand rl := rfl
    have e2 : total (p :: rl) = p.2 + total rl := by unfold total; rw [List.map_cons, List.sum_cons]
    rw [e1, e2, List.length_append, List.length_replicate]
    omega
/-- runs whose neighbours differ -/
def Apart (rl : List (Int × Int)) : Prop := ∀ i p q, rl[i]? = some p → rl[i + 1]? = some q → p.1 ≠ q.1
theorem apart_snoc {t : List (Int × Int)} {p : Int × Int} (h : Apart t) (hl : ∀ q, t.getLast? = some q → q.1 ≠ p.1) : Apart (t ++ [p]) := by
  intro i a b h1 h2
  have hlt := (List.getElem?_eq_some_iff.mp h2).1
  rw [List.length_append, List.length_singleton] at hlt
  rw [List.getElem?_append_left (by omega)] at h1
  by_cases hi : i + 1 < t.length
  · rw [List.getElem?_append_left hi] at h2
    exact h i a b h1 h2
  · have e : i + 1 = t.length := by omega
    rw [List.getElem?_append_right (by omega), e, Nat.sub_self] at h2
    cases h2
    refine hl a ?_
    rw [List.getLast?_eq_getElem?, ← e]
    exact h1
theorem apart_init {t : List (Int × Int)} {p : Int × Int} (h : Apart (t ++ [p])) : Apart t ∧ ∀ q, t.getLast? = some q → q.1 ≠ p.1 := by
  refine ⟨fun i a b h1 h2 => ?_, fun q hq => ?_⟩
  · have hlt := (List.getElem?_eq_some_iff.mp h2).1
    exact h i a b (by rw [List.getElem?_append_left (by omega)]; exact h1) (by rw [List.getElem?_append_left hlt]; exact h2)
  · rcases snoc_cases t with rfl | ⟨u, r, rfl⟩
    · cases hq
    · rw [List.getLast?_concat] at hq
      cases hq
      exact h u.length q p (by simp) (by simp)
theorem addRun_apart {rl : List (Int × Int)} (h : Apart rl) (c n : Int) : Apart (addRun rl c n) := by
  rcases snoc_cases rl with rfl | ⟨t, ⟨d, m⟩, rfl⟩
  · intro i p q h1 h2
    simp [addRun_nil] at h2
  · obtain ⟨h1, h2⟩ := apart_init h
    by_cases e : d = c
    · subst e
      rw [addRun_same]
      exact apart_snoc h1 h2
    · rw [addRun_other _ _ _ e]
      refine apart_snoc h fun q hq => ?_
      rw [List.getLast?_concat] at hq
      cases hq
      exact e
/-- what is true of runs made one of ones -/
structure OnesOk (cs : List Int) (rl : List (Int × Int)) : Prop where
  ap : Apart rl
  pos : ∀ p ∈ rl, 1 ≤ p.2
  chg : ∀ p ∈ rl, p.1 ∈ cs
  ex : expand rl = cs
  tot : total rl = cs.length
theorem runsOf_ok (cs : List Int) : OnesOk cs (runsOf cs) := by
  induction cs using snoc_ind with
  | h0 => exact ⟨fun i p q h => by simp [runsOf] at h, fun p hp => by simp [runsOf] at hp, fun p hp => by simp [runsOf] at hp, rfl, rfl⟩
  | h1 t c ih =>
    rw [runsOf_snoc]
    have mem : ∀ p ∈ addRun (runsOf t) c 1, p ∈ runsOf t ∨ (p.1 = c ∧ 1 ≤ p.2) := by
      intro p hp
      have ps := ih.pos
      rcases snoc_cases (runsOf t) with e | ⟨u, ⟨d, m⟩, e⟩
      · rw [e, addRun_nil] at hp
        rw [List.mem_singleton.mp hp]
        exact .inr ⟨rfl, Int.le_refl _⟩
      · rw [e] at hp ps ⊢
        by_cases h : d = c
        · subst h
          rw [addRun_same] at hp
          rcases List.mem_append.mp hp with q | q
          · exact .inl (List.mem_append_left _ q)
          · rw [List.mem_singleton.mp q]
            have := ps (d, m) (by simp)
            refine .inr ⟨rfl, ?_⟩
            show 1 ≤ m + 1
            have : 1 ≤ m := this
            omega
        · rw [addRun_other _ _ _ h] at hp
          rcases List.mem_append.mp hp with q | q
          · exact .inl q
          · rw [List.mem_singleton.mp q]
            exact .inr ⟨rfl, Int.le_refl _⟩
    refine ⟨addRun_apart ih.ap _ _, fun p hp => ?_, fun p hp => ?_, ?_, ?_⟩
    · rcases mem p hp with q | q
      · exact ih.pos p q
      · exact q.2
    · rcases mem p hp with q | q
      · exact List.mem_append_left _ (ih.chg p q)
      · rw [q.1]; simp
    · rw [expand_add _ (fun p hp => by have := ih.pos p hp; omega) (by decide), ih.ex]
      rfl
    · rw [total_add, ih.tot, List.length_append, List.length_singleton]
      omega
theorem runsOf_replicate (rl : List (Int × Int)) (c : Int) : ∀ (n : Nat), (∀ q, rl.getLast? = some q → q.1 ≠ c) → (List.replicate (n + 1) c).foldl (fun acc c => addRun acc c 1) rl = rl ++ [(c, ((n + 1 : Nat) : Int))]
  | 0, h => by
    show addRun rl c 1 = _
    rcases snoc_cases rl with rfl | ⟨t, ⟨d, m⟩, rfl⟩
    · rfl
    · rw [addRun_other _ _ _ (h (d, m) List.getLast?_concat)]
      rfl
  | n + 1, h => by
    rw [List.replicate_succ', List.foldl_append, runsOf_replicate rl c n h]
    show addRun (rl ++ [(c, _)]) c 1 = _
    rw [addRun_same]
    rfl
/-- runs spread out and made one again -/
theorem runsOf_expand (rl : List (Int × Int)) (ha : Apart rl) (hp : ∀ p ∈ rl, 1 ≤ p.2) : runsOf (expand rl) = rl := by
  induction rl using snoc_ind with
  | h0 => rfl
  | h1 t p0 ih0 =>
    obtain ⟨c, m⟩ := p0
    obtain ⟨h1, h2⟩ := apart_init ha
    have ih := ih0 h1 fun p hp' => hp p (List.mem_append_left _ hp')
    have hm : 1 ≤ m := hp (c, m) (by simp)
    obtain ⟨n, rfl⟩ : ∃ n : Nat, m = ((n + 1 : Nat) : Int) := ⟨(m - 1).toNat, by omega⟩
    rw [expand_snoc]
    show runsOf (expand t ++ List.replicate (((n + 1 : Nat) : Int)).toNat c) = _
    rw [Int.toNat_natCast]
    unfold runsOf at ih ⊢
    rw [List.foldl_append, ih]
    exact runsOf_replicate t c n h2
/-! ### values that are runs -/
def IsRun (d : PyData) (p : Int × Int) : Prop := d = .list [.int p.1, .int p.2] ∨ d = .tuple [.int p.1, .int p.2]
/-- the runs of a value -/
def RunsL (ds : List PyData) (rl : List (Int × Int)) : Prop := ds.length = rl.length ∧ ∀ (i : Nat) (d : PyData), ds[i]? = some d → ∃ p, rl[i]? = some p ∧ IsRun d p
theorem runsL_self (rl : List (Int × Int)) : RunsL (rl.map runD) rl := by
  refine ⟨List.length_map _, fun i d h => ?_⟩
  rw [List.getElem?_map] at h
  cases z : rl[i]? with
  | none => rw [z] at h; cases h
  | some p => rw [z] at h; cases h; exact ⟨p, rfl, .inr rfl⟩
theorem RunsL.nil : RunsL [] [] := ⟨rfl, fun i d h => by simp at h⟩
theorem RunsL.cons {d : PyData} {ds : List PyData} {p : Int × Int} {rl : List (Int × Int)} (h : IsRun d p) (t : RunsL ds rl) : RunsL (d :: ds) (p :: rl) := by
  refine ⟨by rw [List.length_cons, List.length_cons, t.1], fun i e he => ?_⟩
  cases i with
  | zero => simp at he; subst he; exact ⟨p, rfl, h⟩
  | succ i => exact t.2 i e (by simpa using he)
/-- runs that are made one by one, changes in turn -/
structure LongOk (rl : List (Int × Int)) (left : Int) : Prop where
  len : rl.length ≤ 400
  l0 : 0 ≤ left
  tot : total rl + left = 2000
  pos : ∀ p ∈ rl, 1 ≤ p.2 ∧ p.2 ≤ 60
  chg : ∀ (i : Nat) (p : Int × Int), rl[i]? = some p → p.1 = (i : Int) % 3 - 1
theorem LongOk.start : LongOk [] 2000 := ⟨Nat.zero_le _, by decide, rfl, fun p hp => (by cases hp), fun i p h => by simp at h⟩
theorem LongOk.more {rl : List (Int × Int)} {left n : Int} (h : LongOk rl left) (h1 : rl.length < 400) (n1 : 1 ≤ n) (n2 : n ≤ 60) (n3 : n ≤ left) : LongOk (rl ++ [((rl.length : Int) % 3 - 1, n)]) (left - n) := by
  refine ⟨by simp; omega, by omega, ?_, fun p hp => ?_, fun i p hp => ?_⟩
  · rw [total_snoc]
    have := h.tot
    show total rl + n + (left - n) = 2000
    omega
  · rcases List.mem_append.mp hp with q | q
    · exact h.pos p q
    · rw [List.mem_singleton.mp q]; exact ⟨n1, n2⟩
  · have hl := (List.getElem?_eq_some_iff.mp hp).1
    rw [List.length_append, List.length_singleton] at hl
    by_cases hi : i < rl.length
    · rw [List.getElem?_append_left hi] at hp
      exact h.chg i p hp
    · have e : i = rl.length := by omega
      subst e
      rw [List.getElem?_append_right (Nat.le_refl _), Nat.sub_self] at hp
      cases hp
      rfl
theorem LongOk.apart {rl : List (Int × Int)} {left : Int} (h : LongOk rl left) : Apart rl := by
  intro i p q h1 h2
  rw [h.chg i p h1, h.chg (i + 1) q h2]
  omega
theorem LongOk.lo {rl : List (Int × Int)} {left : Int} (h : LongOk rl left) : ∀ p ∈ rl, -1 ≤ p.1 ∧ p.1 ≤ 1 := by
  intro p hp
  obtain ⟨i, hi⟩ := List.getElem?_of_mem hp
  rw [h.chg i p hi]
  omega
def leftOf : Rho → Nat
  | [_, _, some (.dat (.int a)), _, _] => a.toNat
  | _ => 0
theorem eqv_runs (rl : List (Int × Int)) : PyData.eqv (.list (rl.map runD)) (.list (rl.map runD)) = true :=
  SeqAt.eqv_refl _ (by simp only [PyData.canLay0, lay_runs])

theorem runsL_rec {rl : List (Int × Int)} (ha : Apart rl) (hl : rl.length ≤ 400) (hb : ∀ p ∈ rl, -1 ≤ p.1 ∧ p.1 ≤ 1 ∧ 1 ≤ p.2 ∧ p.2 ≤ 1000000000000000000000000000000) : recB (.list (rl.map runD)) = true := by
  show (seqLe (.list (rl.map runD)) 400 && ((rl.map runD).all runB && diffB (rl.map runD))) = true
  have e1 : seqLe (.list (rl.map runD)) 400 = true := decide_eq_true (by rw [List.length_map]; omega)
  have e2 : (rl.map runD).all runB = true := by
    rw [List.all_eq_true]
    intro x hx
    obtain ⟨p, hp, rfl⟩ := List.mem_map.mp hx
    obtain ⟨b1, b2, b3, b4⟩ := hb p hp
    show ((decide (-1 ≤ p.1) && decide (p.1 ≤ 1)) && (decide (1 ≤ p.2) && decide (p.2 ≤ 1000000000000000000000000000000))) = true
    rw [decide_eq_true b1, decide_eq_true b2, decide_eq_true b3, decide_eq_true b4]
    rfl
  have e3 : diffB (rl.map runD) = true := by
    unfold diffB
    rw [List.all_eq_true]
    rintro ⟨x, y⟩ hxy
    obtain ⟨i, hi⟩ := List.getElem?_of_mem hxy
    obtain ⟨h1, h2⟩ := List.getElem?_zip_eq_some.mp hi
    rw [List.getElem?_drop, List.getElem?_map] at h2
    rw [List.getElem?_map] at h1
    rw [Nat.add_comm] at h2
    cases z1 : rl[i]? with
    | none => rw [z1] at h1; cases h1
    | some p =>
      cases z2 : rl[i + 1]? with
      | none => rw [z2] at h2; cases h2
      | some q =>
        rw [z1] at h1
        rw [z2] at h2
        have k1 : runD p = x := Option.some.inj h1
        have k2 : runD q = y := Option.some.inj h2
        rw [← k1, ← k2]
        show (!(p.1 == q.1)) = true
        rw [beq_eq_false_iff_ne.mpr (ha i p q z1 z2)]
        rfl
  rw [e1, e2, e3]
  rfl

/-! ### sizes, changes, positions -/
def chg (r k : Nat) : Int := if r = 1 then 0 else if k = 0 then 1 else if k = r - 1 then -1 else 0
theorem max_ex : ∀ {l : List Int}, l ≠ [] → ∃ m, m ∈ l ∧ ∀ y ∈ l, y ≤ m
  | [], h => absurd rfl h
  | [a], _ => ⟨a, by simp, fun y hy => by rw [List.mem_singleton.mp hy]; exact Int.le_refl _⟩
  | a :: b :: l, _ => by
    obtain ⟨m, h1, h2⟩ := max_ex (l := b :: l) (by simp)
    by_cases h : m ≤ a
    · exact ⟨a, by simp, fun y hy => by
        rcases List.mem_cons.mp hy with rfl | hy
        · exact Int.le_refl _
        · exact Int.le_trans (h2 y hy) h⟩
    · exact ⟨m, List.mem_cons_of_mem _ h1, fun y hy => by
        rcases List.mem_cons.mp hy with rfl | hy
        · omega
        · exact h2 y hy⟩
theorem min_ex : ∀ {l : List Int}, l ≠ [] → ∃ m, m ∈ l ∧ ∀ y ∈ l, m ≤ y
  | [], h => absurd rfl h
  | [a], _ => ⟨a, by simp, fun y hy => by rw [List.mem_singleton.mp hy]; exact Int.le_refl _⟩
  | a :: b :: l, _ => by
    obtain ⟨m, h1, h2⟩ := min_ex (l := b :: l) (by simp)
    by_cases h : a ≤ m
    · exact ⟨a, by simp, fun y hy => by
        rcases List.mem_cons.mp hy with rfl | hy
        · exact Int.le_refl _
        · exact Int.le_trans h (h2 y hy)⟩
    · exact ⟨m, List.mem_cons_of_mem _ h1, fun y hy => by
        rcases List.mem_cons.mp hy with rfl | hy
        · omega
        · exact h2 y hy⟩
theorem maxI_spec {l : List Int} (h : l ≠ []) : maxI l ∈ l ∧ ∀ y ∈ l, y ≤ maxI l := by
  obtain ⟨m, h1, h2⟩ := max_ex h
  rw [maxI_eq h1 h2]
  exact ⟨h1, h2⟩
theorem minI_spec {l : List Int} (h : l ≠ []) : minI l ∈ l ∧ ∀ y ∈ l, minI l ≤ y := by
  obtain ⟨m, h1, h2⟩ := min_ex h
  rw [minI_eq h1 h2]
  exact ⟨h1, h2⟩
theorem mem_set_self {l : List Int} {h : Nat} {x z : Int} (hx : l[h]? = some x) : z ∈ l.set h z := List.mem_set (List.getElem?_eq_some_iff.mp hx).1 z
theorem mem_set_other {l : List Int} {h j : Nat} {y z : Int} (hy : l[j]? = some y) (hj : j ≠ h) : y ∈ l.set h z := List.mem_of_getElem? (i := j) (by rw [List.getElem?_set_ne (Ne.symm hj)]; exact hy)
theorem gt_pos {l : List Int} {x : Int} : 0 < gt l x ↔ ∃ y ∈ l, x < y := by
  unfold gt
  rw [List.length_filter_pos_iff]
  simp
theorem max_bump {l : List Int} {h : Nat} {x : Int} (hx : l[h]? = some x) : maxI (l.set h (x + 1)) = maxI l + if gt l x = 0 then 1 else 0 := by
  have hne : l ≠ [] := fun z => by rw [z] at hx; cases hx
  obtain ⟨m1, m2⟩ := maxI_spec hne
  have hxm := m2 x (List.mem_of_getElem? hx)
  by_cases g : gt l x = 0
  · have hno : ∀ y ∈ l, y ≤ x := fun y hy => by
      have : ¬ 0 < gt l x := by omega
      rw [gt_pos] at this
      have h2 : ¬ x < y := fun z => this ⟨y, hy, z⟩
      omega
    have e : maxI l = x := by have := hno _ m1; omega
    rw [if_pos g, e]
    refine maxI_eq (mem_set_self hx) fun y hy => ?_
    rcases List.mem_or_eq_of_mem_set hy with q | rfl
    · have := hno y q; omega
    · exact Int.le_refl _
  · obtain ⟨y, hy, hxy⟩ := gt_pos.mp (Nat.pos_of_ne_zero g)
    have := m2 y hy
    obtain ⟨j, hj⟩ := List.getElem?_of_mem m1
    have hjh : j ≠ h := fun z => by rw [z, hx] at hj; have := Option.some.inj hj; omega
    rw [if_neg g, Int.add_zero]
    refine maxI_eq (mem_set_other hj hjh) fun z hz => ?_
    rcases List.mem_or_eq_of_mem_set hz with q | rfl
    · exact m2 z q
    · omega
theorem gt_erase : ∀ {l : List Int} {h : Nat} {x : Int}, l[h]? = some x → gt l x = gt (l.eraseIdx h) x
  | [], _, _, e => by simp at e
  | y :: l, 0, x, e => by
    have e : y = x := by simpa using e
    subst e
    rw [gt_cons, if_neg (by omega)]
    rfl
  | y :: l, h + 1, x, e => by
    rw [List.eraseIdx_cons_succ, gt_cons, gt_cons, gt_erase (l := l) (h := h) (by simpa using e)]
theorem gt_full {l : List Int} {x : Int} : gt l x = l.length ↔ ∀ y ∈ l, x < y := by
  unfold gt
  rw [List.length_filter_eq_length_iff]
  simp
theorem mem_erase_iff {l : List Int} {h : Nat} {y : Int} (hy : y ∈ l.eraseIdx h) : ∃ j, j ≠ h ∧ l[j]? = some y := by
  obtain ⟨i, hi⟩ := List.getElem?_of_mem hy
  rw [List.getElem?_eraseIdx] at hi
  split at hi
  · exact ⟨i, by omega, hi⟩
  · exact ⟨i + 1, by omega, hi⟩
theorem erase_mem {l : List Int} {h j : Nat} {y : Int} (hj : j ≠ h) (hy : l[j]? = some y) : y ∈ l.eraseIdx h := by
  by_cases z : j < h
  · exact List.mem_of_getElem? (i := j) (by rw [List.getElem?_eraseIdx, if_pos z]; exact hy)
  · refine List.mem_of_getElem? (i := j - 1) ?_
    rw [List.getElem?_eraseIdx, if_neg (by omega), show j - 1 + 1 = j by omega]
    exact hy
theorem min_bump {l : List Int} {h : Nat} {x : Int} (hx : l[h]? = some x) : minI (l.set h (x + 1)) = minI l + if gt l x = l.length - 1 then 1 else 0 := by
  have hne : l ≠ [] := fun z => by rw [z] at hx; cases hx
  obtain ⟨m1, m2⟩ := minI_spec hne
  have hxm := m2 x (List.mem_of_getElem? hx)
  have hl := (List.getElem?_eq_some_iff.mp hx).1
  have key : gt l x = l.length - 1 ↔ ∀ y ∈ l.eraseIdx h, x < y := by
    rw [gt_erase hx, ← gt_full, List.length_eraseIdx_of_lt hl]
  by_cases g : gt l x = l.length - 1
  · have all := key.mp g
    have e : minI l = x := by
      obtain ⟨j, hj⟩ := List.getElem?_of_mem m1
      by_cases z : j = h
      · rw [z, hx] at hj
        exact (Option.some.inj hj).symm
      · have := all _ (erase_mem z hj)
        omega
    rw [if_pos g, e]
    refine minI_eq (mem_set_self hx) fun y hy => ?_
    obtain ⟨j, hj⟩ := List.getElem?_of_mem hy
    by_cases z : h = j
    · subst z
      rw [List.getElem?_set_self hl] at hj
      have := Option.some.inj hj
      omega
    · rw [List.getElem?_set_ne z] at hj
      have := all y (erase_mem (Ne.symm z) hj)
      omega
  · have hex : ∃ y ∈ l.eraseIdx h, ¬ x < y := by
      refine Classical.byContradiction fun no => g (key.mpr fun y hy => ?_)
      exact Classical.byContradiction fun z => no ⟨y, hy, z⟩
    obtain ⟨y, hy, hyx⟩ := hex
    obtain ⟨j, hj, hjy⟩ := mem_erase_iff hy
    rw [if_neg g, Int.add_zero]
    have hmy := m2 y (List.mem_of_getElem? hjy)
    refine minI_eq ?_ fun z hz => ?_
    · obtain ⟨i, hi⟩ := List.getElem?_of_mem m1
      by_cases q : i = h
      · rw [q, hx] at hi
        have := Option.some.inj hi
        have e : y = minI l := by omega
        rw [← e]
        exact mem_set_other hjy hj
      · exact mem_set_other hi q
    · rcases List.mem_or_eq_of_mem_set hz with q | rfl
      · exact m2 z q
      · omega
theorem spread_bump {l : List Int} {h r : Nat} (hl : l.length = r) (hh : h < r) : spread (bump l h) - spread l = chg r (gt l (l.getD h 0)) := by
  subst hl
  have hx : l[h]? = some l[h] := List.getElem?_eq_getElem (by omega)
  have gx : l.getD h 0 = l[h] := by rw [List.getD_eq_getElem?_getD, hx]; rfl
  have hlt := gt_lt (List.mem_of_getElem? hx)
  rw [gx, bump_at hx]
  unfold spread
  rw [max_bump hx, min_bump hx]
  generalize gt l l[h] = g at hlt
  unfold chg
  by_cases r1 : l.length = 1
  · rw [if_pos r1, if_pos (by omega), if_pos (by omega)]
    omega
  · rw [if_neg r1]
    by_cases k0 : g = 0
    · rw [if_pos k0, if_pos k0, if_neg (by omega)]
      omega
    · rw [if_neg k0, if_neg k0]
      by_cases k1 : g = l.length - 1
      · rw [if_pos k1, if_pos k1]
        omega
      · rw [if_neg k1, if_neg k1]
        omega
theorem spread_zero (r : Nat) (hr : 1 ≤ r) : spread (List.replicate r 0) = 0 := by
  have hm : (0 : Int) ∈ List.replicate r (0 : Int) := List.mem_replicate.mpr ⟨by omega, rfl⟩
  unfold spread
  rw [maxI_eq hm fun y hy => by rw [(List.mem_replicate.mp hy).2]; exact Int.le_refl _, minI_eq hm fun y hy => by rw [(List.mem_replicate.mp hy).2]; exact Int.le_refl _]
  rfl
/-- sizes behind each read -/
def sizesFrom : List Int → List Nat → List Int
  | _, [] => []
  | l, h :: hs => spread (bump l h) :: sizesFrom (bump l h) hs
theorem sizesFrom_snoc (l : List Int) (hs : List Nat) (h : Nat) : sizesFrom l (hs ++ [h]) = sizesFrom l hs ++ [spread (bump (bumps l hs) h)] := by
  induction hs generalizing l with
  | nil => rfl
  | cons a hs ih => show spread (bump l a) :: sizesFrom (bump l a) (hs ++ [h]) = _; rw [ih]; rfl
theorem sizesFrom_len (l : List Int) (hs : List Nat) : (sizesFrom l hs).length = hs.length := by
  induction hs generalizing l with
  | nil => rfl
  | cons a hs ih => show (sizesFrom (bump l a) hs).length + 1 = _; rw [ih]; rfl
/-- the changes of reads -/
def chgsOf (r : Nat) (hs : List Nat) : List Int := (ranksFrom (List.replicate r 0) hs).map (chg r)
theorem chg_lo (r k : Nat) : -1 ≤ chg r k ∧ chg r k ≤ 1 := by unfold chg; repeat (split <;> try decide)
/-- steps, part by part -/
theorem steps_parts {r : Nat} : ∀ {hs : List Nat} {l : List Int}, l.length = r → (∀ h ∈ hs, h < r) → ∀ (i : Nat) (d : PyData), (stepsFrom l hs)[i]? = some d →
    ∃ (k : Nat) (s : Int), d = .tuple [natD k, .int (chg r k), .int s] ∧ (ranksFrom l hs)[i]? = some k ∧ (sizesFrom l hs)[i]? = some s
  | [], _, _, _, i, d, e => by simp [stepsFrom] at e
  | h :: hs, l, hl, hh, 0, d, e => by
    have e : stepD l h = d := by simpa [stepsFrom] using e
    subst e
    refine ⟨gt l (l.getD h 0), spread (bump l h), ?_, rfl, rfl⟩
    unfold stepD
    rw [spread_bump hl (hh h (by simp))]
  | h :: hs, l, hl, hh, i + 1, d, e => steps_parts (hs := hs) (l := bump l h) (by rw [bump_len]; exact hl) (fun a ha => hh a (List.mem_cons_of_mem _ ha)) i d (by simpa [stepsFrom] using e)
def gmax (g : Int) (ss : List Int) : Int := ss.foldl (fun g s => if s > g then s else g) g
theorem gmax_snoc (g : Int) (ss : List Int) (s : Int) : gmax g (ss ++ [s]) = if s > gmax g ss then s else gmax g ss := by unfold gmax; rw [List.foldl_append]; rfl
theorem gmax_spec (g : Int) (ss : List Int) : gmax g ss ∈ g :: ss ∧ ∀ y ∈ g :: ss, y ≤ gmax g ss := by
  induction ss using snoc_ind with
  | h0 => exact ⟨by simp [gmax], fun y hy => by rw [List.mem_singleton.mp hy]; exact Int.le_refl _⟩
  | h1 t s ih =>
    obtain ⟨h1, h2⟩ := ih
    rw [gmax_snoc]
    have sub : ∀ y, y ∈ g :: (t ++ [s]) ↔ y ∈ g :: t ∨ y = s := fun y => by simp [or_assoc]
    split
    · refine ⟨(sub _).mpr (.inr rfl), fun y hy => ?_⟩
      rcases (sub y).mp hy with q | rfl
      · have := h2 y q; omega
      · exact Int.le_refl _
    · refine ⟨(sub _).mpr (.inl h1), fun y hy => ?_⟩
      rcases (sub y).mp hy with q | rfl
      · exact h2 y q
      · omega
theorem gmax_eq {ss : List Int} {m : Int} (h : m ∈ (0 : Int) :: ss) (hm : ∀ y ∈ (0 : Int) :: ss, y ≤ m) : m = gmax 0 ss := by
  obtain ⟨h1, h2⟩ := gmax_spec 0 ss
  have := hm _ h1
  have := h2 _ h
  omega
/-- the size before read i -/
theorem size_step {r : Nat} {hs : List Nat} (hh : ∀ h ∈ hs, h < r) {i h : Nat} (hi : hs[i]? = some h) : (chgsOf r hs)[i]? = some (spread (bump (bumps (List.replicate r 0) (hs.take i)) h) - spread (bumps (List.replicate r 0) (hs.take i))) := by
  unfold chgsOf
  rw [List.getElem?_map]
  have hl : (bumps (List.replicate r 0) (hs.take i)).length = r := by rw [bumps_len, List.length_replicate]
  rw [spread_bump hl (hh h (List.mem_of_getElem? hi))]
  have e : (ranksFrom (List.replicate r 0) hs)[i]? = some (gt (bumps (List.replicate r 0) (hs.take i)) ((bumps (List.replicate r 0) (hs.take i)).getD h 0)) := by
    have hil := (List.getElem?_eq_some_iff.mp hi).1
    have e1 : hs = hs.take i ++ (h :: hs.drop (i + 1)) := by
      conv => lhs; rw [← List.take_append_drop i hs, List.drop_eq_getElem_cons hil]
      rw [List.getElem?_eq_getElem hil] at hi
      rw [Option.some.inj hi]
    have app : ∀ (a b : List Nat) (l : List Int), ranksFrom l (a ++ b) = ranksFrom l a ++ ranksFrom (bumps l a) b := fun a b => by
      induction a with
      | nil => intro l; rfl
      | cons c a ih => intro l; show _ :: ranksFrom (bump l c) (a ++ b) = _; rw [ih]; rfl
    conv => lhs; rw [e1, app]
    rw [List.getElem?_append_right (by rw [ranksFrom_len, List.length_take]; omega), ranksFrom_len, List.length_take, show i - min i hs.length = 0 by omega]
    rfl
  rw [e]
  rfl
theorem count_cast (hs : List Nat) (j : Nat) : (hs.map fun h => ((h : Nat) : Int)).count (j : Int) = hs.count j := by
  induction hs with
  | nil => rfl
  | cons h hs ih =>
    rw [List.map_cons, List.count_cons, List.count_cons, ih]
    have : (((h : Nat) : Int) == (j : Int)) = (h == j) := by
      by_cases e : h = j
      · subst e; rw [beq_self_eq_true, beq_self_eq_true]
      · rw [beq_eq_false_iff_ne.mpr e, beq_eq_false_iff_ne.mpr (by omega)]
    rw [this]
theorem bumps_count {r : Nat} (hs : List Nat) (hh : ∀ h ∈ hs, h < r) : bumps (List.replicate r 0) hs = (List.range r).map fun j => ((hs.count j : Nat) : Int) := by
  induction hs using snoc_ind with
  | h0 =>
    apply List.ext_getElem?
    intro j
    show (List.replicate r (0 : Int))[j]? = _
    rw [List.getElem?_replicate, List.getElem?_map]
    by_cases h : j < r
    · rw [if_pos h, List.getElem?_range h]; rfl
    · rw [if_neg h, List.getElem?_eq_none (by rw [List.length_range]; omega)]; rfl
  | h1 t a ih =>
    have ih := ih fun h hm => hh h (List.mem_append_left _ hm)
    have ha : a < r := hh a (by simp)
    rw [bumps_snoc, ih]
    have hx : ((List.range r).map fun j => ((t.count j : Nat) : Int))[a]? = some ((t.count a : Nat) : Int) := by rw [List.getElem?_map, List.getElem?_range ha]; rfl
    rw [bump_at hx]
    apply List.ext_getElem?
    intro j
    rw [List.getElem?_map]
    by_cases h : j < r
    · rw [List.getElem?_range h]
      by_cases e : a = j
      · subst e
        rw [List.getElem?_set_self (by rw [List.length_map, List.length_range]; exact ha)]
        show _ = some (((t ++ [a]).count a : Nat) : Int)
        rw [List.count_append]
        simp
      · rw [List.getElem?_set_ne e, List.getElem?_map, List.getElem?_range h]
        show some ((t.count j : Nat) : Int) = some (((t ++ [a]).count j : Nat) : Int)
        rw [List.count_append]
        simp [e]
    · rw [List.getElem?_eq_none (by rw [List.length_set, List.length_map, List.length_range]; omega), List.getElem?_eq_none (by rw [List.length_range]; omega)]
      rfl

/-! ### readers renamed; sorted positions -/
/-- names of readers, each once -/
structure Names (r : Nat) (ns : List Nat) : Prop where
  len : ns.length = r
  lt : ∀ n ∈ ns, n < r
  inj : ∀ (i j n : Nat), ns[i]? = some n → ns[j]? = some n → i = j
def nameOf (ns : List Nat) (h : Nat) : Nat := ns.getD h 0
theorem nameOf_at {r : Nat} {ns : List Nat} (N : Names r ns) {h : Nat} (hh : h < r) : ns[h]? = some (nameOf ns h) ∧ nameOf ns h < r := by
  have hn : h < ns.length := by rw [N.len]; exact hh
  have e : ns[h]? = some ns[h] := List.getElem?_eq_getElem hn
  have g : nameOf ns h = ns[h] := by unfold nameOf; rw [List.getD_eq_getElem?_getD, e]; rfl
  exact ⟨by rw [g, e], by rw [g]; exact N.lt _ (List.getElem_mem _)⟩
/-- positions of renamed readers -/
structure Ren (r : Nat) (ns : List Nat) (l l' : List Int) : Prop where
  len : l.length = r
  len' : l'.length = r
  eq : ∀ h, h < r → l'[nameOf ns h]? = l[h]?
  gt : ∀ v, gt l' v = gt l v
theorem Ren.bump {r : Nat} {ns : List Nat} (N : Names r ns) {l l' : List Int} (R : Ren r ns l l') {h : Nat} (hh : h < r) : Ren r ns (bump l h) (bump l' (nameOf ns h)) := by
  have hn : h < l.length := by rw [R.len]; exact hh
  have hx : l[h]? = some l[h] := List.getElem?_eq_getElem hn
  have hx' : l'[nameOf ns h]? = some l[h] := by rw [R.eq h hh, hx]
  refine ⟨by rw [bump_len, R.len], by rw [bump_len, R.len'], fun j hj => ?_, fun v => ?_⟩
  · rw [bump_at hx, bump_at hx']
    by_cases e : h = j
    · subst e
      rw [List.getElem?_set_self (by rw [R.len']; exact (nameOf_at N hh).2), List.getElem?_set_self (by rw [R.len]; exact hh)]
    · have ne : nameOf ns h ≠ nameOf ns j := fun z => e (N.inj h j _ (nameOf_at N hh).1 (by rw [z]; exact (nameOf_at N hj).1))
      rw [List.getElem?_set_ne ne, List.getElem?_set_ne e]
      exact R.eq j hj
  · rw [bump_at hx, bump_at hx', gt_set hx, gt_set hx', R.gt]
theorem ren_ranks {r : Nat} {ns : List Nat} (N : Names r ns) {l l' : List Int} (R : Ren r ns l l') {hs : List Nat} (hh : ∀ h ∈ hs, h < r) : ranksFrom l' (hs.map (nameOf ns)) = ranksFrom l hs := by
  induction hs generalizing l l' with
  | nil => rfl
  | cons h hs ih =>
    have hl : h < r := hh h (by simp)
    have e : l'.getD (nameOf ns h) 0 = l.getD h 0 := by rw [List.getD_eq_getElem?_getD, List.getD_eq_getElem?_getD, R.eq h hl]
    show gt l' (l'.getD (nameOf ns h) 0) :: ranksFrom (bump l' (nameOf ns h)) (hs.map (nameOf ns)) = gt l (l.getD h 0) :: ranksFrom (bump l h) hs
    rw [e, R.gt, ih (R.bump N hl) fun a ha => hh a (List.mem_cons_of_mem _ ha)]
theorem ren_start {r : Nat} {ns : List Nat} (N : Names r ns) : Ren r ns (List.replicate r 0) (List.replicate r 0) := by
  refine ⟨List.length_replicate, List.length_replicate, fun h hh => ?_, fun _ => rfl⟩
  rw [List.getElem?_replicate, List.getElem?_replicate, if_pos hh, if_pos (nameOf_at N hh).2]
theorem dec_unique {a b : List Int} (ha : Dec a) (hb : Dec b) (hl : a.length = b.length) (hg : ∀ v, gt a v = gt b v) : a = b := by
  apply List.ext_getElem hl
  intro i h1 h2
  have ea : a[i]? = some a[i] := List.getElem?_eq_getElem h1
  have eb : b[i]? = some b[i] := List.getElem?_eq_getElem h2
  have p := dec_gt ha b[i] ea
  have q := dec_gt hb b[i] eb
  have p2 := dec_gt ha a[i] ea
  have q2 := dec_gt hb a[i] eb
  rw [hg] at p p2
  omega
theorem gt_perm {a b : List Int} (h : a.Perm b) (v : Int) : gt a v = gt b v := (h.filter _).length_eq
theorem dec_rev {a : List Int} (h : a.Pairwise (· ≤ ·)) : Dec a.reverse := by
  unfold Dec
  rw [List.pairwise_reverse]
  exact h
theorem gt_rev (a : List Int) (v : Int) : gt a.reverse v = gt a v := gt_perm (List.reverse_perm a) v
/-- positions sorted downwards are the counts of the ranks -/
theorem sorted_counts {l c s : List Int} (R : Rel l c) (hp : s.Perm l) (hs : s.Pairwise (· ≤ ·)) : s.reverse = c := by
  refine dec_unique (dec_rev hs) R.dec (by rw [List.length_reverse, hp.length_eq, R.len]) fun v => ?_
  rw [gt_rev, gt_perm hp, R.gt]
theorem rel_bumps {l c : List Int} (R : Rel l c) : ∀ {hs : List Nat}, (∀ h ∈ hs, h < l.length) → Rel (bumps l hs) (bumps c (ranksFrom l hs)) := by
  intro hs hh
  induction hs generalizing l c with
  | nil => exact R
  | cons h hs ih =>
    have hl : h < l.length := hh h (by simp)
    have hi : l[h]? = some l[h] := List.getElem?_eq_getElem hl
    have hg : l.getD h 0 = l[h] := by rw [List.getD_eq_getElem?_getD, hi]; rfl
    obtain ⟨v1, v2⟩ := R.val hi
    show Rel (bumps (bump l h) hs) (bumps (bump c (gt l (l.getD h 0))) (ranksFrom (bump l h) hs))
    rw [hg]
    refine ih ?_ fun a ha => by rw [bump_len]; exact hh a (List.mem_cons_of_mem _ ha)
    rw [bump_at v1, bump_at hi]
    exact R.bump hi v1 v2
theorem ranksFrom_app (l : List Int) (a b : List Nat) : ranksFrom l (a ++ b) = ranksFrom l a ++ ranksFrom (bumps l a) b := by
  induction a generalizing l with
  | nil => rfl
  | cons c a ih => show _ :: ranksFrom (bump l c) (a ++ b) = _; rw [ih]; rfl


end Tee

namespace Tee
open PySem PySem.Spec PyProof.Rows L2
local macro_rules | `(tactic| walk_at "vis") => `(tactic| first | exact Or.inl rfl | exact Or.inr (Or.inl rfl) | exact Or.inr (Or.inr rfl))
local macro_rules | `(tactic| walk_at "loc") => `(tactic| first | exact Or.inl rfl | exact Or.inr rfl)
local macro_rules | `(tactic| walk_at "e") => `(tactic| first | ((with_reducible show WE _ (Expr.Call (Expr.Name "len" _) [Expr.Name "script" _] _ _) _ _); refine we_lenScr 0 rfl (by walk_at "vis") rfl ?_ (by with_reducible assumption)) | ((with_reducible show WE _ (Expr.Constant (Const.int _) _ _) _ _); refine we_int ?_) | ((with_reducible show WE _ (Expr.Constant (Const.str _) _ _) _ _); refine we_str ?_) | ((with_reducible show WE _ (Expr.Constant (Const.bool true) _ _) _ _); refine we_true ?_) | ((with_reducible show WE _ (Expr.Constant (Const.bool false) _ _) _ _); refine we_false ?_) | ((with_reducible show WE _ (Expr.Constant Const.none _ _) _ _); refine we_none ?_) | ((with_reducible show WE _ (Expr.BinOp _ Operator.Add _ _) _ _); refine we_plus ?_) | ((with_reducible show WE _ (Expr.BinOp _ Operator.Sub _ _) _ _); refine we_minus ?_) | ((with_reducible show WE _ (Expr.BinOp _ Operator.Mult _ _) _ _); refine we_times ?_) | ((with_reducible show WE _ (Expr.BinOp _ Operator.FloorDiv _ _) _ _); refine we_fdiv ?_) | ((with_reducible show WE _ (Expr.BinOp _ Operator.Mod _ _) _ _); refine we_mod ?_) | ((with_reducible show WE _ (Expr.BinOp _ Operator.Pow _ _) _ _); refine we_pow ?_) | ((with_reducible show WE _ (Expr.UnaryOp UnaryOp.USub _ _) _ _); refine we_neg ?_) | ((with_reducible show WE _ (Expr.UnaryOp UnaryOp.Not _ _) _ _); refine we_not ?_) | ((with_reducible show WE _ (Expr.Compare _ [_] [_] _) _ _); refine we_cmp ?_) | ((with_reducible show WE _ (Expr.Compare _ [_, _] [_, _] _) _ _); refine we_chain ?_) | ((with_reducible show WE _ (Expr.BoolOp BoolOp.And (_ :: _ :: _) _) _ _); refine we_and ?_) | ((with_reducible show WE _ (Expr.BoolOp BoolOp.Or (_ :: _ :: _) _) _ _); refine we_or ?_) | ((with_reducible show WE _ (Expr.BoolOp _ [_] _) _ _); refine we_one ?_) | ((with_reducible show WE _ (Expr.IfExp _ _ _ _) _ _); refine we_ifExp ?_) | ((with_reducible show WE _ (Expr.Subscript _ (Expr.Slice _ _ _ _) _) _ _); refine we_slice ?_) | ((with_reducible show WE _ (Expr.Subscript _ _ _) _ _); refine we_ix ?_) | ((with_reducible show WE _ (Expr.List _ _) _ _); refine we_list ?_) | ((with_reducible show WE _ (Expr.Tuple _ _ _) _ _); refine we_tuple ?_) | ((with_reducible show WE _ (Expr.Dict [] [] _) _ _); refine we_dict0 ?_) | ((with_reducible show WE _ (Expr.Dict [_] [_] _) _ _); refine we_dict1 ?_) | ((with_reducible show WE _ (Expr.Call (Expr.Name "len" _) [_] _ _) _ _); refine we_len ?_ (by with_reducible assumption)) | ((with_reducible show WE _ (Expr.Call (Expr.Name "sum" _) [_] _ _) _ _); refine we_sum ?_ (by with_reducible assumption)) | ((with_reducible show WE _ (Expr.Call (Expr.Name "max" _) [_] _ _) _ _); refine we_max ?_ (by with_reducible assumption)) | ((with_reducible show WE _ (Expr.Call (Expr.Name "min" _) [_] _ _) _ _); refine we_min ?_ (by with_reducible assumption)) | ((with_reducible show WE _ (Expr.Call (Expr.Name "max" _) [_, _] _ _) _ _); refine we_max2 ?_ (by with_reducible assumption)) | ((with_reducible show WE _ (Expr.Call (Expr.Name "min" _) [_, _] _ _) _ _); refine we_min2 ?_ (by with_reducible assumption)) | ((with_reducible show WE _ (Expr.Call (Expr.Name "int" _) [_] _ _) _ _); refine we_toInt ?_ (by with_reducible assumption)) | ((with_reducible show WE _ (Expr.Call (Expr.Name "tuple" _) [_] _ _) _ _); refine we_toTup ?_ (by with_reducible assumption)) | ((with_reducible show WE _ (Expr.Call (Expr.Name "list" _) [_] _ _) _ _); refine we_toLis ?_ (by with_reducible assumption)) | ((with_reducible show WE _ (Expr.Call (Expr.Name "all" _) [_] _ _) _ _); refine we_all ?_ (by with_reducible assumption)) | ((with_reducible show WE _ (Expr.Call (Expr.Name "any" _) [_] _ _) _ _); refine we_any ?_ (by with_reducible assumption)) | ((with_reducible show WE _ (Expr.Call (Expr.Name "repr" _) [_] _ _) _ _); refine we_repr ?_ (by with_reducible assumption)) | ((with_reducible show WE _ (Expr.Call (Expr.Name "isinstance" _) [_, Expr.Name "int" _] _ _) _ _); refine we_isi (n := "int") ?_ PyProof.Rows.boot_int (by with_reducible assumption) (by with_reducible assumption)) | ((with_reducible show WE _ (Expr.Call (Expr.Name "isinstance" _) [_, Expr.Name "bool" _] _ _) _ _); refine we_isi (n := "bool") ?_ PyProof.Rows.boot_bool (by with_reducible assumption) (by with_reducible assumption)) | ((with_reducible show WE _ (Expr.Call (Expr.Name "isinstance" _) [_, Expr.Tuple _ _ _] _ _) _ _); refine we_isi2 (n := "list") (n' := "tuple") ?_ PyProof.Rows.boot_list PyProof.Rows.boot_tuple (by with_reducible assumption) (by with_reducible assumption) (by with_reducible assumption)) | ((with_reducible show WE _ (Expr.Name _ _) _ _); walk_at "nm") | ((with_reducible show WE _ (Expr.Call (Expr.Name _ _) _ _ _) _ _); walk_at "fn"))
local macro_rules | `(tactic| walk_at "o") => `(tactic| first | ((with_reducible show WO _ (Expr.Name _ _) _ _); walk_at "no") | refine WO.of ?_)
local macro_rules | `(tactic| walk_at "t") => `(tactic| first | ((with_reducible show WT _ (Expr.Compare _ [_] [_] _) _ _); refine wt_cmp ?_) | ((with_reducible show WT _ (Expr.UnaryOp UnaryOp.Not _ _) _ _); refine wt_not ?_) | ((with_reducible show WT _ (Expr.BoolOp _ _ _) _ _); refine wt_bool ?_) | refine wt_val ?_)
local macro_rules | `(tactic| walk_at "w") => `(tactic| first | ((with_reducible show WW _ (Expr.BoolOp BoolOp.And (_ :: _ :: _) _) _ _); refine ww_and ?_) | ((with_reducible show WW _ (Expr.BoolOp BoolOp.Or (_ :: _ :: _) _) _ _); refine ww_or ?_) | ((with_reducible show WW _ (Expr.BoolOp BoolOp.And _ _) _ _); refine ww_and1 ?_) | ((with_reducible show WW _ (Expr.BoolOp BoolOp.Or _ _) _ _); refine ww_or1 ?_))
local macro_rules | `(tactic| walk_at "g") => `(tactic| first | ((with_reducible show WG _ [] _ _); refine wg_nil ?_) | ((with_reducible show WG _ (Expr.Name _ _ :: _) _ _); walk_at "rel") | refine wg_dat ?_)
local macro_rules | `(tactic| walk_at "d") => `(tactic| first | ((with_reducible show WD _ [] _ _); refine wd_nil ?_) | refine wd_cons ?_)
local macro_rules | `(tactic| walk_at "p") => `(tactic| first | ((with_reducible show WPa _ none _ _); refine wp_none ?_) | refine wp_some ?_)
local macro_rules | `(tactic| walk_at "1") => `(tactic| first | ((with_reducible show W1 _ (Stmt.If _ _ _ _) _ _); refine w1_if ?_) | ((with_reducible show W1 _ (Stmt.Return (some _) _) _ _); refine w1_ret ?_) | ((with_reducible show W1 _ (Stmt.Return none _) _ _); refine w1_retN ?_) | ((with_reducible show W1 _ (Stmt.Expr _ _) _ _); walk_at "app") | ((with_reducible show W1 _ (Stmt.Assign [Expr.Subscript _ _ _] _ _) _ _); walk_at "sto") | ((with_reducible show W1 _ (Stmt.Assign [Expr.Name _ _] _ _) _ _); walk_at "set"))
local macro_rules | `(tactic| walk_at "S") => `(tactic| first | ((with_reducible show WS _ [] _ _); refine ws_nil ?_) | refine ws_cons ?_)
local macro_rules | `(tactic| walk_at "lf") => `(tactic| first | refine ⟨_, rfl, ?_⟩ | refine ⟨fun _ => ?_, fun _ => ?_⟩)
local macro_rules | `(tactic| walk_at "cl") => `(tactic| dsimp only [PlusD, MinusD, TimesD, FdivD, ModD, PowD, CmpD, LenD, IxD, SliD, TruD, IntD, TupD, LisD, Max2D, Min2D, thenR, endR])
local macro_rules | `(tactic| walk_at "s") => `(tactic| first | ((with_reducible show WS _ _ _ _); walk_at "S") | ((with_reducible show W1 _ _ _ _); walk_at "1") | ((with_reducible show WE _ _ _ _); walk_at "e") | ((with_reducible show WO _ _ _ _); walk_at "o") | ((with_reducible show WT _ _ _ _); walk_at "t") | ((with_reducible show WW _ _ _ _); walk_at "w") | ((with_reducible show WG _ _ _ _); walk_at "g") | ((with_reducible show WD _ _ _ _); walk_at "d") | ((with_reducible show WPa _ _ _ _); walk_at "p") | ((with_reducible show List.length _ ≤ sizeLine ∧ _); refine ⟨Nat.le_trans (by simp : _ ≤ 100) (by decide), ?_⟩) | ((with_reducible show SeqAt.shaped _ = true ∧ _); refine ⟨by first | rfl | exact shaped_ints _ | assumption, ?_⟩) | ((with_reducible show (0 : Int) < _ ∧ _ < _ ∧ ∀ v : Int, _); refine ⟨by first | omega | decide, by first | exact lt8000 (by omega) | assumption, fun _ _ _ => ?_⟩) | ((with_reducible show (0 : Int) < _ ∧ _); refine ⟨by first | omega | decide, ?_⟩) | ((with_reducible show CPow _ _ ∧ _); refine ⟨⟨by decide, by decide, by decide⟩, ?_⟩) | ((with_reducible show thenR _ _ _ (Out.nx _)); show WS _ _ _ _) | walk_at "cl" | walk_at "lf")
local macro_rules | `(tactic| walk_at "q") => `(tactic| first | ((with_reducible show WE _ _ _ _); walk_at "e") | ((with_reducible show WO _ _ _ _); walk_at "o") | ((with_reducible show WT _ _ _ _); walk_at "t") | ((with_reducible show WW _ _ _ _); walk_at "w") | ((with_reducible show WG _ _ _ _); walk_at "g") | ((with_reducible show WD _ _ _ _); walk_at "d") | ((with_reducible show WPa _ _ _ _); walk_at "p") | ((with_reducible show List.length _ ≤ sizeLine ∧ _); refine ⟨Nat.le_trans (by simp : _ ≤ 100) (by decide), ?_⟩) | ((with_reducible show SeqAt.shaped _ = true ∧ _); refine ⟨by first | rfl | exact shaped_ints _ | assumption, ?_⟩) | ((with_reducible show (0 : Int) < _ ∧ _ < _ ∧ ∀ v : Int, _); refine ⟨by first | omega | decide, by first | exact lt8000 (by omega) | assumption, fun _ _ _ => ?_⟩) | ((with_reducible show (0 : Int) < _ ∧ _); refine ⟨by first | omega | decide, ?_⟩) | ((with_reducible show CPow _ _ ∧ _); refine ⟨⟨by decide, by decide, by decide⟩, ?_⟩) | walk_at "cl" | walk_at "lf")
section
variable {P : Program} {w : World} {K : PySem.W.Frag} {mg : Str → Option Value} {base : Heap}
local macro_rules | `(tactic| walk_at "nm") => `(tactic| first | ((with_reducible show WE _ (Expr.Name "value" _) _ _); refine we_name 0 rfl (by walk_at "vis") rfl ?_) | ((with_reducible show WE _ (Expr.Name "most" _) _ _); refine we_name 1 rfl (by walk_at "vis") rfl ?_) | ((with_reducible show WE _ (Expr.Name "least" _) _ _); refine we_name 2 rfl (by walk_at "vis") rfl ?_) | ((with_reducible show WE _ (Expr.Name "greatest" _) _ _); refine we_name 3 rfl (by walk_at "vis") rfl ?_) | ((with_reducible show WE _ (Expr.Name "item" _) _ _); refine we_name 4 rfl (by walk_at "vis") rfl ?_))
local macro_rules | `(tactic| walk_at "no") => `(tactic| first | ((with_reducible show WO _ (Expr.Name "value" _) _ _); refine wo_own 0 rfl (by walk_at "vis") rfl ?_) | ((with_reducible show WO _ (Expr.Name "most" _) _ _); refine wo_own 1 rfl (by walk_at "vis") rfl ?_) | ((with_reducible show WO _ (Expr.Name "least" _) _ _); refine wo_own 2 rfl (by walk_at "vis") rfl ?_) | ((with_reducible show WO _ (Expr.Name "greatest" _) _ _); refine wo_own 3 rfl (by walk_at "vis") rfl ?_) | ((with_reducible show WO _ (Expr.Name "item" _) _ _); refine wo_own 4 rfl (by walk_at "vis") rfl ?_))
local macro_rules | `(tactic| walk_at "rel") => `(tactic| first | ((with_reducible show WG _ (Expr.Name "value" _ :: _) _ _); refine wg_rel 0 rfl (by walk_at "vis") rfl ?_) | ((with_reducible show WG _ (Expr.Name "most" _ :: _) _ _); refine wg_rel 1 rfl (by walk_at "vis") rfl ?_) | ((with_reducible show WG _ (Expr.Name "least" _ :: _) _ _); refine wg_rel 2 rfl (by walk_at "vis") rfl ?_) | ((with_reducible show WG _ (Expr.Name "greatest" _ :: _) _ _); refine wg_rel 3 rfl (by walk_at "vis") rfl ?_) | ((with_reducible show WG _ (Expr.Name "item" _ :: _) _ _); refine wg_rel 4 rfl (by walk_at "vis") rfl ?_))
local macro_rules | `(tactic| walk_at "set") => `(tactic| first | ((with_reducible show W1 _ (Stmt.Assign [Expr.Name "value" _] _ _) _ _); refine w1_set 0 ?_ rfl (by walk_at "loc") (Or.inl rfl)) | ((with_reducible show W1 _ (Stmt.Assign [Expr.Name "most" _] _ _) _ _); refine w1_set 1 ?_ rfl (by walk_at "loc") (Or.inl rfl)) | ((with_reducible show W1 _ (Stmt.Assign [Expr.Name "least" _] _ _) _ _); refine w1_set 2 ?_ rfl (by walk_at "loc") (Or.inl rfl)) | ((with_reducible show W1 _ (Stmt.Assign [Expr.Name "greatest" _] _ _) _ _); refine w1_set 3 ?_ rfl (by walk_at "loc") (Or.inl rfl)) | ((with_reducible show W1 _ (Stmt.Assign [Expr.Name "item" _] _ _) _ _); refine w1_set 4 ?_ rfl (by walk_at "loc") (Or.inl rfl)))
local macro_rules | `(tactic| walk_at "app") => `(tactic| first | ((with_reducible show W1 _ (Stmt.Expr (Expr.Call (Expr.Attribute (Expr.Name "value" _) _ _) _ _ _) _) _ _); refine w1_append 0 rfl ?_ rfl (by walk_at "vis")) | ((with_reducible show W1 _ (Stmt.Expr (Expr.Call (Expr.Attribute (Expr.Name "most" _) _ _) _ _ _) _) _ _); refine w1_append 1 rfl ?_ rfl (by walk_at "vis")) | ((with_reducible show W1 _ (Stmt.Expr (Expr.Call (Expr.Attribute (Expr.Name "least" _) _ _) _ _ _) _) _ _); refine w1_append 2 rfl ?_ rfl (by walk_at "vis")) | ((with_reducible show W1 _ (Stmt.Expr (Expr.Call (Expr.Attribute (Expr.Name "greatest" _) _ _) _ _ _) _) _ _); refine w1_append 3 rfl ?_ rfl (by walk_at "vis")) | ((with_reducible show W1 _ (Stmt.Expr (Expr.Call (Expr.Attribute (Expr.Name "item" _) _ _) _ _ _) _) _ _); refine w1_append 4 rfl ?_ rfl (by walk_at "vis")))
local macro_rules | `(tactic| walk_at "sto") => `(tactic| first | ((with_reducible show W1 _ (Stmt.Assign [Expr.Subscript (Expr.Name "value" _) _ _] _ _) _ _); refine w1_store 0 rfl ?_ rfl (by walk_at "vis")) | ((with_reducible show W1 _ (Stmt.Assign [Expr.Subscript (Expr.Name "most" _) _ _] _ _) _ _); refine w1_store 1 rfl ?_ rfl (by walk_at "vis")) | ((with_reducible show W1 _ (Stmt.Assign [Expr.Subscript (Expr.Name "least" _) _ _] _ _) _ _); refine w1_store 2 rfl ?_ rfl (by walk_at "vis")) | ((with_reducible show W1 _ (Stmt.Assign [Expr.Subscript (Expr.Name "greatest" _) _ _] _ _) _ _); refine w1_store 3 rfl ?_ rfl (by walk_at "vis")) | ((with_reducible show W1 _ (Stmt.Assign [Expr.Subscript (Expr.Name "item" _) _ _] _ _) _ _); refine w1_store 4 rfl ?_ rfl (by walk_at "vis")))
local macro_rules | `(tactic| walk_at "tg") => `(tactic| first | ((with_reducible show WTg _ (Expr.Name "value" _) _ _ _ _); refine wtg_name 0 rfl (by walk_at "loc") (by walk_at "loc") ?_) | ((with_reducible show WTg _ (Expr.Name "most" _) _ _ _ _); refine wtg_name 1 rfl (by walk_at "loc") (by walk_at "loc") ?_) | ((with_reducible show WTg _ (Expr.Name "least" _) _ _ _ _); refine wtg_name 2 rfl (by walk_at "loc") (by walk_at "loc") ?_) | ((with_reducible show WTg _ (Expr.Name "greatest" _) _ _ _ _); refine wtg_name 3 rfl (by walk_at "loc") (by walk_at "loc") ?_) | ((with_reducible show WTg _ (Expr.Name "item" _) _ _ _ _); refine wtg_name 4 rfl (by walk_at "loc") (by walk_at "loc") ?_))

local macro_rules | `(tactic| walk_at "fn") => `(tactic| first | ((with_reducible show WE _ (Expr.Call (Expr.Name "is_list_up_to" _) _ _ _) _ _); refine we_call (by with_reducible assumption) (by dsimp only; omega) ?_) | ((with_reducible show WE _ (Expr.Call (Expr.Name "is_integer_between" _) _ _ _) _ _); refine we_call (by with_reducible assumption) (by dsimp only; omega) ?_))

theorem ws_aib {k : Nat} (B : Bl mg) (hk : 1 ≤ k) (hIlu : Has P w K mg base "is_list_up_to" 1 wIlu) (hIib : Has P w K mg base "is_integer_between" 1 wIib) (as : List SV) (Q : PyData → Prop) (h : wAib as Q) :
    WS ⟨P, w, K, mg, base, ["value", "most", "least", "greatest", "item"], defScope sAib, fun _ => true, k⟩ (defBody sAib) (startR ["value", "most", "least", "greatest", "item"] as) (endR Q) := by
  obtain ⟨mi, mn, mb, mls, mt, ml, ma, mr, mre, mmi, mma, ms⟩ := B
  obtain ⟨d, m, lo, hi, rfl, hm, q⟩ := h
  iterate 9 walk_at "s"
  refine ⟨d, m, rfl, _, rfl, fun h1 => ?_, fun h1 => ?_⟩
  · have fin : ∀ xs : List PyData, items d = xs → Q (.bool (((xs.map fun x => intB x lo hi)).all id)) := fun xs e => by
      rw [h1, Bool.true_and, e] at q
      rw [List.all_map]
      exact q
    iterate 3 walk_at "s"
    cases d with
    | list xs =>
      have hz : xs.length ≤ 1000000 := by have := of_decide_eq_true h1; omega
      refine we_lcM [("item", 4)] [4] (fun x => .bool (intB x lo hi)) (wi_list ?_)
      walk_at "s"
      refine ⟨xs, rfl, hz, fun x hx => ?_, xs.map fun x => intB x lo hi, by rw [List.map_map]; rfl, fin xs rfl⟩
      walk_at "tg"
      iterate 8 walk_at "s"
      exact ⟨x, lo, hi, rfl, rfl⟩
    | tuple xs =>
      have hz : xs.length ≤ 1000000 := by have := of_decide_eq_true h1; omega
      refine we_lcM [("item", 4)] [4] (fun x => .bool (intB x lo hi)) (wi_tup ?_)
      walk_at "s"
      refine ⟨xs, rfl, hz, fun x hx => ?_, xs.map fun x => intB x lo hi, by rw [List.map_map]; rfl, fin xs rfl⟩
      walk_at "tg"
      iterate 8 walk_at "s"
      exact ⟨x, lo, hi, rfl, rfl⟩
    | _ => cases h1
  · show Q _
    rw [h1, Bool.false_and] at q
    exact q
end

section
variable {P : Program} {w : World} {K : PySem.W.Frag} {mg : Str → Option Value} {base : Heap}
local macro_rules | `(tactic| walk_at "nm") => `(tactic| first | ((with_reducible show WE _ (Expr.Name "readers" _) _ _); refine we_name 0 rfl (by walk_at "vis") rfl ?_) | ((with_reducible show WE _ (Expr.Name "most" _) _ _); refine we_name 1 rfl (by walk_at "vis") rfl ?_))
local macro_rules | `(tactic| walk_at "no") => `(tactic| first | ((with_reducible show WO _ (Expr.Name "readers" _) _ _); refine wo_own 0 rfl (by walk_at "vis") rfl ?_) | ((with_reducible show WO _ (Expr.Name "most" _) _ _); refine wo_own 1 rfl (by walk_at "vis") rfl ?_))
local macro_rules | `(tactic| walk_at "rel") => `(tactic| first | ((with_reducible show WG _ (Expr.Name "readers" _ :: _) _ _); refine wg_rel 0 rfl (by walk_at "vis") rfl ?_) | ((with_reducible show WG _ (Expr.Name "most" _ :: _) _ _); refine wg_rel 1 rfl (by walk_at "vis") rfl ?_))
local macro_rules | `(tactic| walk_at "set") => `(tactic| first | ((with_reducible show W1 _ (Stmt.Assign [Expr.Name "readers" _] _ _) _ _); refine w1_set 0 ?_ rfl (by walk_at "loc") (Or.inl rfl)) | ((with_reducible show W1 _ (Stmt.Assign [Expr.Name "most" _] _ _) _ _); refine w1_set 1 ?_ rfl (by walk_at "loc") (Or.inl rfl)))
local macro_rules | `(tactic| walk_at "app") => `(tactic| first | ((with_reducible show W1 _ (Stmt.Expr (Expr.Call (Expr.Attribute (Expr.Name "readers" _) _ _) _ _ _) _) _ _); refine w1_append 0 rfl ?_ rfl (by walk_at "vis")) | ((with_reducible show W1 _ (Stmt.Expr (Expr.Call (Expr.Attribute (Expr.Name "most" _) _ _) _ _ _) _) _ _); refine w1_append 1 rfl ?_ rfl (by walk_at "vis")))
local macro_rules | `(tactic| walk_at "sto") => `(tactic| first | ((with_reducible show W1 _ (Stmt.Assign [Expr.Subscript (Expr.Name "readers" _) _ _] _ _) _ _); refine w1_store 0 rfl ?_ rfl (by walk_at "vis")) | ((with_reducible show W1 _ (Stmt.Assign [Expr.Subscript (Expr.Name "most" _) _ _] _ _) _ _); refine w1_store 1 rfl ?_ rfl (by walk_at "vis")))
local macro_rules | `(tactic| walk_at "tg") => `(tactic| first | ((with_reducible show WTg _ (Expr.Name "readers" _) _ _ _ _); refine wtg_name 0 rfl (by walk_at "loc") (by walk_at "loc") ?_) | ((with_reducible show WTg _ (Expr.Name "most" _) _ _ _ _); refine wtg_name 1 rfl (by walk_at "loc") (by walk_at "loc") ?_))

local macro_rules | `(tactic| walk_at "fn") => `(tactic| first | ((with_reducible show WE _ (Expr.Call (Expr.Name "is_integer_between" _) _ _ _) _ _); refine we_call (by with_reducible assumption) (by dsimp only; omega) ?_))

theorem ws_rqr {k : Nat} (hk : 1 ≤ k) (hIib : Has P w K mg base "is_integer_between" 1 wIib) (as : List SV) (Q : PyData → Prop) (h : wRqr as Q) :
    WS ⟨P, w, K, mg, base, ["readers", "most"], defScope sRqr, fun _ => true, k⟩ (defBody sRqr) (startR ["readers", "most"] as) (endR Q) := by
  obtain ⟨r, m, rfl, h1, h2, q⟩ := h
  repeat walk_at "s"
  refine ⟨_, 1, m, rfl, _, rfl, ?_⟩
  have e : intB (.int r) 1 m = true := by simp only [intB, decide_eq_true h1, decide_eq_true h2, Bool.and_self]
  rw [e]
  refine ⟨fun z => (by cases z), fun _ => ?_⟩
  iterate 3 walk_at "s"
  exact q
end

section
variable {P : Program} {w : World} {K : PySem.W.Frag} {mg : Str → Option Value} {base : Heap}
local macro_rules | `(tactic| walk_at "nm") => `(tactic| first | ((with_reducible show WE _ (Expr.Name "readers" _) _ _); refine we_name 0 rfl (by walk_at "vis") rfl ?_) | ((with_reducible show WE _ (Expr.Name "value" _) _ _); refine we_name 1 rfl (by walk_at "vis") rfl ?_))
local macro_rules | `(tactic| walk_at "no") => `(tactic| first | ((with_reducible show WO _ (Expr.Name "readers" _) _ _); refine wo_own 0 rfl (by walk_at "vis") rfl ?_) | ((with_reducible show WO _ (Expr.Name "value" _) _ _); refine wo_own 1 rfl (by walk_at "vis") rfl ?_))
local macro_rules | `(tactic| walk_at "rel") => `(tactic| first | ((with_reducible show WG _ (Expr.Name "readers" _ :: _) _ _); refine wg_rel 0 rfl (by walk_at "vis") rfl ?_) | ((with_reducible show WG _ (Expr.Name "value" _ :: _) _ _); refine wg_rel 1 rfl (by walk_at "vis") rfl ?_))
local macro_rules | `(tactic| walk_at "set") => `(tactic| first | ((with_reducible show W1 _ (Stmt.Assign [Expr.Name "readers" _] _ _) _ _); refine w1_set 0 ?_ rfl (by walk_at "loc") (Or.inl rfl)) | ((with_reducible show W1 _ (Stmt.Assign [Expr.Name "value" _] _ _) _ _); refine w1_set 1 ?_ rfl (by walk_at "loc") (Or.inl rfl)))
local macro_rules | `(tactic| walk_at "app") => `(tactic| first | ((with_reducible show W1 _ (Stmt.Expr (Expr.Call (Expr.Attribute (Expr.Name "readers" _) _ _) _ _ _) _) _ _); refine w1_append 0 rfl ?_ rfl (by walk_at "vis")) | ((with_reducible show W1 _ (Stmt.Expr (Expr.Call (Expr.Attribute (Expr.Name "value" _) _ _) _ _ _) _) _ _); refine w1_append 1 rfl ?_ rfl (by walk_at "vis")))
local macro_rules | `(tactic| walk_at "sto") => `(tactic| first | ((with_reducible show W1 _ (Stmt.Assign [Expr.Subscript (Expr.Name "readers" _) _ _] _ _) _ _); refine w1_store 0 rfl ?_ rfl (by walk_at "vis")) | ((with_reducible show W1 _ (Stmt.Assign [Expr.Subscript (Expr.Name "value" _) _ _] _ _) _ _); refine w1_store 1 rfl ?_ rfl (by walk_at "vis")))
local macro_rules | `(tactic| walk_at "tg") => `(tactic| first | ((with_reducible show WTg _ (Expr.Name "readers" _) _ _ _ _); refine wtg_name 0 rfl (by walk_at "loc") (by walk_at "loc") ?_) | ((with_reducible show WTg _ (Expr.Name "value" _) _ _ _ _); refine wtg_name 1 rfl (by walk_at "loc") (by walk_at "loc") ?_))

local macro_rules | `(tactic| walk_at "fn") => `(tactic| first | ((with_reducible show WE _ (Expr.Call (Expr.Name "require_readers" _) _ _ _) _ _); refine we_call (by with_reducible assumption) (by dsimp only; omega) ?_) | ((with_reducible show WE _ (Expr.Call (Expr.Name "are_integers_between" _) _ _ _) _ _); refine we_call (by with_reducible assumption) (by dsimp only; omega) ?_))

local macro_rules | `(tactic| walk_at "nm") => `(tactic| ((with_reducible show WE _ (Expr.Name "MOST_READERS" _) _ _); refine we_globI (by with_reducible assumption) ?_))
local macro_rules | `(tactic| walk_at "nm") => `(tactic| ((with_reducible show WE _ (Expr.Name "MOST_ITEMS" _) _ _); refine we_globI (by with_reducible assumption) ?_))

theorem ws_ish {k : Nat} (hk : 2 ≤ k) (hRqr : Has P w K mg base "require_readers" 2 wRqr) (hAib : Has P w K mg base "are_integers_between" 2 wAib) {t1 t2 : Tok} (g1 : mg "MOST_READERS" = some (.int 200 t1)) (g2 : mg "MOST_ITEMS" = some (.int 400 t2)) (as : List SV) (Q : PyData → Prop) (h : wIsh as Q) :
    WS ⟨P, w, K, mg, base, ["readers", "value"], defScope sIsh, fun _ => true, k⟩ (defBody sIsh) (startR ["readers", "value"] as) (endR Q) := by
  obtain ⟨r, d, rfl, h1, h2, q⟩ := h
  walk_at "s"
  refine w1_expr ?_
  repeat walk_at "s"
  refine ⟨r, 200, rfl, h1, h2, ?_⟩
  repeat walk_at "s"
  exact ⟨d, 400, 0, r - 1, rfl, by decide, q⟩
end

def wRqh : Wp := fun as Q => ∃ (r : Int) (d : PyData), as = [.dat (.int r), .dat d] ∧ 1 ≤ r ∧ r ≤ 200 ∧ histB r d = true ∧ Q .none
section
variable {P : Program} {w : World} {K : PySem.W.Frag} {mg : Str → Option Value} {base : Heap}
local macro_rules | `(tactic| walk_at "nm") => `(tactic| first | ((with_reducible show WE _ (Expr.Name "readers" _) _ _); refine we_name 0 rfl (by walk_at "vis") rfl ?_) | ((with_reducible show WE _ (Expr.Name "history" _) _ _); refine we_name 1 rfl (by walk_at "vis") rfl ?_))
local macro_rules | `(tactic| walk_at "no") => `(tactic| first | ((with_reducible show WO _ (Expr.Name "readers" _) _ _); refine wo_own 0 rfl (by walk_at "vis") rfl ?_) | ((with_reducible show WO _ (Expr.Name "history" _) _ _); refine wo_own 1 rfl (by walk_at "vis") rfl ?_))
local macro_rules | `(tactic| walk_at "rel") => `(tactic| first | ((with_reducible show WG _ (Expr.Name "readers" _ :: _) _ _); refine wg_rel 0 rfl (by walk_at "vis") rfl ?_) | ((with_reducible show WG _ (Expr.Name "history" _ :: _) _ _); refine wg_rel 1 rfl (by walk_at "vis") rfl ?_))
local macro_rules | `(tactic| walk_at "set") => `(tactic| first | ((with_reducible show W1 _ (Stmt.Assign [Expr.Name "readers" _] _ _) _ _); refine w1_set 0 ?_ rfl (by walk_at "loc") (Or.inl rfl)) | ((with_reducible show W1 _ (Stmt.Assign [Expr.Name "history" _] _ _) _ _); refine w1_set 1 ?_ rfl (by walk_at "loc") (Or.inl rfl)))
local macro_rules | `(tactic| walk_at "app") => `(tactic| first | ((with_reducible show W1 _ (Stmt.Expr (Expr.Call (Expr.Attribute (Expr.Name "readers" _) _ _) _ _ _) _) _ _); refine w1_append 0 rfl ?_ rfl (by walk_at "vis")) | ((with_reducible show W1 _ (Stmt.Expr (Expr.Call (Expr.Attribute (Expr.Name "history" _) _ _) _ _ _) _) _ _); refine w1_append 1 rfl ?_ rfl (by walk_at "vis")))
local macro_rules | `(tactic| walk_at "sto") => `(tactic| first | ((with_reducible show W1 _ (Stmt.Assign [Expr.Subscript (Expr.Name "readers" _) _ _] _ _) _ _); refine w1_store 0 rfl ?_ rfl (by walk_at "vis")) | ((with_reducible show W1 _ (Stmt.Assign [Expr.Subscript (Expr.Name "history" _) _ _] _ _) _ _); refine w1_store 1 rfl ?_ rfl (by walk_at "vis")))
local macro_rules | `(tactic| walk_at "tg") => `(tactic| first | ((with_reducible show WTg _ (Expr.Name "readers" _) _ _ _ _); refine wtg_name 0 rfl (by walk_at "loc") (by walk_at "loc") ?_) | ((with_reducible show WTg _ (Expr.Name "history" _) _ _ _ _); refine wtg_name 1 rfl (by walk_at "loc") (by walk_at "loc") ?_))

local macro_rules | `(tactic| walk_at "fn") => `(tactic| first | ((with_reducible show WE _ (Expr.Call (Expr.Name "is_history" _) _ _ _) _ _); refine we_call (by with_reducible assumption) (by dsimp only; omega) ?_))

theorem ws_rqh {k : Nat} (hk : 3 ≤ k) (hIsh : Has P w K mg base "is_history" 3 wIsh) (as : List SV) (Q : PyData → Prop) (h : wRqh as Q) :
    WS ⟨P, w, K, mg, base, ["readers", "history"], defScope sRequireHistory, fun _ => true, k⟩ (defBody sRequireHistory) (startR ["readers", "history"] as) (endR Q) := by
  obtain ⟨r, d, rfl, r1, r2, hd, q⟩ := h
  repeat walk_at "s"
  refine ⟨r, d, rfl, r1, r2, _, rfl, ?_⟩
  rw [hd]
  refine ⟨fun z => (by cases z), fun _ => ?_⟩
  iterate 3 walk_at "s"
  exact q
end


end Tee

namespace Tee
open PySem PySem.Spec PyProof.Rows L2
local macro_rules | `(tactic| walk_at "vis") => `(tactic| first | exact Or.inl rfl | exact Or.inr (Or.inl rfl) | exact Or.inr (Or.inr rfl))
local macro_rules | `(tactic| walk_at "loc") => `(tactic| first | exact Or.inl rfl | exact Or.inr rfl)
local macro_rules | `(tactic| walk_at "e") => `(tactic| first | ((with_reducible show WE _ (Expr.Call (Expr.Name "len" _) [Expr.Name "script" _] _ _) _ _); refine we_lenScr 0 rfl (by walk_at "vis") rfl ?_ (by with_reducible assumption)) | ((with_reducible show WE _ (Expr.Constant (Const.int _) _ _) _ _); refine we_int ?_) | ((with_reducible show WE _ (Expr.Constant (Const.str _) _ _) _ _); refine we_str ?_) | ((with_reducible show WE _ (Expr.Constant (Const.bool true) _ _) _ _); refine we_true ?_) | ((with_reducible show WE _ (Expr.Constant (Const.bool false) _ _) _ _); refine we_false ?_) | ((with_reducible show WE _ (Expr.Constant Const.none _ _) _ _); refine we_none ?_) | ((with_reducible show WE _ (Expr.BinOp _ Operator.Add _ _) _ _); refine we_plus ?_) | ((with_reducible show WE _ (Expr.BinOp _ Operator.Sub _ _) _ _); refine we_minus ?_) | ((with_reducible show WE _ (Expr.BinOp _ Operator.Mult _ _) _ _); refine we_times ?_) | ((with_reducible show WE _ (Expr.BinOp _ Operator.FloorDiv _ _) _ _); refine we_fdiv ?_) | ((with_reducible show WE _ (Expr.BinOp _ Operator.Mod _ _) _ _); refine we_mod ?_) | ((with_reducible show WE _ (Expr.BinOp _ Operator.Pow _ _) _ _); refine we_pow ?_) | ((with_reducible show WE _ (Expr.UnaryOp UnaryOp.USub _ _) _ _); refine we_neg ?_) | ((with_reducible show WE _ (Expr.UnaryOp UnaryOp.Not _ _) _ _); refine we_not ?_) | ((with_reducible show WE _ (Expr.Compare _ [_] [_] _) _ _); refine we_cmp ?_) | ((with_reducible show WE _ (Expr.Compare _ [_, _] [_, _] _) _ _); refine we_chain ?_) | ((with_reducible show WE _ (Expr.BoolOp BoolOp.And (_ :: _ :: _) _) _ _); refine we_and ?_) | ((with_reducible show WE _ (Expr.BoolOp BoolOp.Or (_ :: _ :: _) _) _ _); refine we_or ?_) | ((with_reducible show WE _ (Expr.BoolOp _ [_] _) _ _); refine we_one ?_) | ((with_reducible show WE _ (Expr.IfExp _ _ _ _) _ _); refine we_ifExp ?_) | ((with_reducible show WE _ (Expr.Subscript _ (Expr.Slice _ _ _ _) _) _ _); refine we_slice ?_) | ((with_reducible show WE _ (Expr.Subscript _ _ _) _ _); refine we_ix ?_) | ((with_reducible show WE _ (Expr.List _ _) _ _); refine we_list ?_) | ((with_reducible show WE _ (Expr.Tuple _ _ _) _ _); refine we_tuple ?_) | ((with_reducible show WE _ (Expr.Dict [] [] _) _ _); refine we_dict0 ?_) | ((with_reducible show WE _ (Expr.Dict [_] [_] _) _ _); refine we_dict1 ?_) | ((with_reducible show WE _ (Expr.Call (Expr.Name "len" _) [_] _ _) _ _); refine we_len ?_ (by with_reducible assumption)) | ((with_reducible show WE _ (Expr.Call (Expr.Name "sum" _) [_] _ _) _ _); refine we_sum ?_ (by with_reducible assumption)) | ((with_reducible show WE _ (Expr.Call (Expr.Name "max" _) [_] _ _) _ _); refine we_max ?_ (by with_reducible assumption)) | ((with_reducible show WE _ (Expr.Call (Expr.Name "min" _) [_] _ _) _ _); refine we_min ?_ (by with_reducible assumption)) | ((with_reducible show WE _ (Expr.Call (Expr.Name "max" _) [_, _] _ _) _ _); refine we_max2 ?_ (by with_reducible assumption)) | ((with_reducible show WE _ (Expr.Call (Expr.Name "min" _) [_, _] _ _) _ _); refine we_min2 ?_ (by with_reducible assumption)) | ((with_reducible show WE _ (Expr.Call (Expr.Name "int" _) [_] _ _) _ _); refine we_toInt ?_ (by with_reducible assumption)) | ((with_reducible show WE _ (Expr.Call (Expr.Name "tuple" _) [_] _ _) _ _); refine we_toTup ?_ (by with_reducible assumption)) | ((with_reducible show WE _ (Expr.Call (Expr.Name "list" _) [_] _ _) _ _); refine we_toLis ?_ (by with_reducible assumption)) | ((with_reducible show WE _ (Expr.Call (Expr.Name "all" _) [_] _ _) _ _); refine we_all ?_ (by with_reducible assumption)) | ((with_reducible show WE _ (Expr.Call (Expr.Name "any" _) [_] _ _) _ _); refine we_any ?_ (by with_reducible assumption)) | ((with_reducible show WE _ (Expr.Call (Expr.Name "repr" _) [_] _ _) _ _); refine we_repr ?_ (by with_reducible assumption)) | ((with_reducible show WE _ (Expr.Call (Expr.Name "isinstance" _) [_, Expr.Name "int" _] _ _) _ _); refine we_isi (n := "int") ?_ PyProof.Rows.boot_int (by with_reducible assumption) (by with_reducible assumption)) | ((with_reducible show WE _ (Expr.Call (Expr.Name "isinstance" _) [_, Expr.Name "bool" _] _ _) _ _); refine we_isi (n := "bool") ?_ PyProof.Rows.boot_bool (by with_reducible assumption) (by with_reducible assumption)) | ((with_reducible show WE _ (Expr.Call (Expr.Name "isinstance" _) [_, Expr.Tuple _ _ _] _ _) _ _); refine we_isi2 (n := "list") (n' := "tuple") ?_ PyProof.Rows.boot_list PyProof.Rows.boot_tuple (by with_reducible assumption) (by with_reducible assumption) (by with_reducible assumption)) | ((with_reducible show WE _ (Expr.Name _ _) _ _); walk_at "nm") | ((with_reducible show WE _ (Expr.Call (Expr.Name _ _) _ _ _) _ _); walk_at "fn"))
local macro_rules | `(tactic| walk_at "o") => `(tactic| first | ((with_reducible show WO _ (Expr.Name _ _) _ _); walk_at "no") | refine WO.of ?_)
local macro_rules | `(tactic| walk_at "t") => `(tactic| first | ((with_reducible show WT _ (Expr.Compare _ [_] [_] _) _ _); refine wt_cmp ?_) | ((with_reducible show WT _ (Expr.UnaryOp UnaryOp.Not _ _) _ _); refine wt_not ?_) | ((with_reducible show WT _ (Expr.BoolOp _ _ _) _ _); refine wt_bool ?_) | refine wt_val ?_)
local macro_rules | `(tactic| walk_at "w") => `(tactic| first | ((with_reducible show WW _ (Expr.BoolOp BoolOp.And (_ :: _ :: _) _) _ _); refine ww_and ?_) | ((with_reducible show WW _ (Expr.BoolOp BoolOp.Or (_ :: _ :: _) _) _ _); refine ww_or ?_) | ((with_reducible show WW _ (Expr.BoolOp BoolOp.And _ _) _ _); refine ww_and1 ?_) | ((with_reducible show WW _ (Expr.BoolOp BoolOp.Or _ _) _ _); refine ww_or1 ?_))
local macro_rules | `(tactic| walk_at "g") => `(tactic| first | ((with_reducible show WG _ [] _ _); refine wg_nil ?_) | ((with_reducible show WG _ (Expr.Name _ _ :: _) _ _); walk_at "rel") | refine wg_dat ?_)
local macro_rules | `(tactic| walk_at "d") => `(tactic| first | ((with_reducible show WD _ [] _ _); refine wd_nil ?_) | refine wd_cons ?_)
local macro_rules | `(tactic| walk_at "p") => `(tactic| first | ((with_reducible show WPa _ none _ _); refine wp_none ?_) | refine wp_some ?_)
local macro_rules | `(tactic| walk_at "1") => `(tactic| first | ((with_reducible show W1 _ (Stmt.If _ _ _ _) _ _); refine w1_if ?_) | ((with_reducible show W1 _ (Stmt.Return (some _) _) _ _); refine w1_ret ?_) | ((with_reducible show W1 _ (Stmt.Return none _) _ _); refine w1_retN ?_) | ((with_reducible show W1 _ (Stmt.Expr _ _) _ _); walk_at "app") | ((with_reducible show W1 _ (Stmt.Assign [Expr.Subscript _ _ _] _ _) _ _); walk_at "sto") | ((with_reducible show W1 _ (Stmt.Assign [Expr.Name _ _] _ _) _ _); walk_at "set"))
local macro_rules | `(tactic| walk_at "S") => `(tactic| first | ((with_reducible show WS _ [] _ _); refine ws_nil ?_) | refine ws_cons ?_)
local macro_rules | `(tactic| walk_at "lf") => `(tactic| first | refine ⟨_, rfl, ?_⟩ | refine ⟨fun _ => ?_, fun _ => ?_⟩)
local macro_rules | `(tactic| walk_at "cl") => `(tactic| dsimp only [PlusD, MinusD, TimesD, FdivD, ModD, PowD, CmpD, LenD, IxD, SliD, TruD, IntD, TupD, LisD, Max2D, Min2D, thenR, endR])
local macro_rules | `(tactic| walk_at "s") => `(tactic| first | ((with_reducible show WS _ _ _ _); walk_at "S") | ((with_reducible show W1 _ _ _ _); walk_at "1") | ((with_reducible show WE _ _ _ _); walk_at "e") | ((with_reducible show WO _ _ _ _); walk_at "o") | ((with_reducible show WT _ _ _ _); walk_at "t") | ((with_reducible show WW _ _ _ _); walk_at "w") | ((with_reducible show WG _ _ _ _); walk_at "g") | ((with_reducible show WD _ _ _ _); walk_at "d") | ((with_reducible show WPa _ _ _ _); walk_at "p") | ((with_reducible show List.length _ ≤ sizeLine ∧ _); refine ⟨Nat.le_trans (by simp : _ ≤ 100) (by decide), ?_⟩) | ((with_reducible show SeqAt.shaped _ = true ∧ _); refine ⟨by first | rfl | exact shaped_ints _ | assumption, ?_⟩) | ((with_reducible show (0 : Int) < _ ∧ _ < _ ∧ ∀ v : Int, _); refine ⟨by first | omega | decide, by first | exact lt8000 (by omega) | assumption, fun _ _ _ => ?_⟩) | ((with_reducible show (0 : Int) < _ ∧ _); refine ⟨by first | omega | decide, ?_⟩) | ((with_reducible show CPow _ _ ∧ _); refine ⟨⟨by decide, by decide, by decide⟩, ?_⟩) | ((with_reducible show thenR _ _ _ (Out.nx _)); show WS _ _ _ _) | walk_at "cl" | walk_at "lf")
local macro_rules | `(tactic| walk_at "q") => `(tactic| first | ((with_reducible show WE _ _ _ _); walk_at "e") | ((with_reducible show WO _ _ _ _); walk_at "o") | ((with_reducible show WT _ _ _ _); walk_at "t") | ((with_reducible show WW _ _ _ _); walk_at "w") | ((with_reducible show WG _ _ _ _); walk_at "g") | ((with_reducible show WD _ _ _ _); walk_at "d") | ((with_reducible show WPa _ _ _ _); walk_at "p") | ((with_reducible show List.length _ ≤ sizeLine ∧ _); refine ⟨Nat.le_trans (by simp : _ ≤ 100) (by decide), ?_⟩) | ((with_reducible show SeqAt.shaped _ = true ∧ _); refine ⟨by first | rfl | exact shaped_ints _ | assumption, ?_⟩) | ((with_reducible show (0 : Int) < _ ∧ _ < _ ∧ ∀ v : Int, _); refine ⟨by first | omega | decide, by first | exact lt8000 (by omega) | assumption, fun _ _ _ => ?_⟩) | ((with_reducible show (0 : Int) < _ ∧ _); refine ⟨by first | omega | decide, ?_⟩) | ((with_reducible show CPow _ _ ∧ _); refine ⟨⟨by decide, by decide, by decide⟩, ?_⟩) | walk_at "cl" | walk_at "lf")
theorem cut_tail (x : V) (xs : List V) : cutV (x :: xs) (some 1) none = xs := by
  unfold cutV
  rw [show HT.sIx (x :: xs).length 0 (some 1) = min 1 (x :: xs).length from HT.sIx_nat _ 0 1, HT.sIx_none]
  rw [show min 1 (x :: xs).length = 1 by
    rw [List.length_cons]
    omega]
  show List.take ((x :: xs).length - 1) xs = xs
  rw [List.length_cons, Nat.add_sub_cancel]
  exact List.take_length
section
variable {P : Program} {w : World} {K : PySem.W.Frag} {mg : Str → Option Value} {base : Heap}
theorem ok_draw {f : Addr} {fd : FuncData} {k : Nat} (F : Fun K "_law_draw" "_law_draw" sDrw f fd) (ml : mg "len" = none) (mi : mg "int" = none) : FnOk P w K mg base CX0 (k + 1) f fd ["reel", "many"] (spV K wDraw) := by
  refine F.ok scDrw (fun vs H Q E h => ?_) (fun cdv A outer s H vs Q E hr h => ?_)
  · obtain ⟨G, R, as, Q0, wd, ar, ⟨m, rfl, _⟩, _⟩ := h
    exact ar.len
  · obtain ⟨G, R, as, Q0, wd, ar, ⟨m, rfl, hm, hm9, q⟩, k0⟩ := h
    obtain ⟨r, rfl, rl⟩ : ∃ r, vs = [.ref r, .int m] ∧ ReelAt R r := by
      cases ar with
      | @cons v a vs as h1 h2 =>
        cases h2 with
        | @cons v2 a2 vs2 as2 h3 h4 =>
          cases h4
          cases v with
          | ref r =>
            have h3' : Dd G v2 (.int m) := h3
            cases h3'
            exact ⟨r, rfl, h1⟩
          | _ => exact h1.elim
    obtain ⟨g, e, gs, es, c, z, hr0, hg, he, g1, g2, e1, e2, e3, c1, z1, z2⟩ := rl
    have Hr := wd.rh _ _ hr0
    have Hg := wd.rh _ _ hg
    have He := wd.rh _ _ he
    have hdivm : CDivW (gs.headD 0) m := ⟨hm, Nat.lt_trans (log_lt (Int.le_of_lt hm) hm9 (by decide)) (by decide)⟩
    refine ⟨_, pss_cons (ps_if (pt_cmpR (op_neD hr.units) (pe_ix ix_list (pv 0) pe_int (fun _ _ => rfl)) (pe_lst pa_nil) (nomark _))
        (pss_cons (ps_set (i := 2) scDrw.nd rfl (.inl rfl) (pe_ix ix_list (pe_ix ix_list (pv 0) pe_int (fun _ _ => rfl)) pe_int (fun _ _ => rfl)))
        (pss_cons (ps_asg (pe_op op_cat (pe_op op_rep (pe_lst (pa_cons (pe_op op_fdivW (pv 2) (pv 1)) pa_nil)) (pe_callTy call_int1 (by rfl) mi (by exact PyProof.Rows.boot_int) (pa_cons (pe_cmpR op_ge (pv 2) (pv 1) (nomark _)) pa_nil)))
            (pe_slice sl_list (pe_ix ix_list (pv 0) pe_int (fun _ _ => rfl)) (po_some pe_int) po_none)) (pg_sub (pv 0) pe_int set_list))
        (pss_one (ps_ret (pe_op op_mod (pv 2) (pv 1)))))) pss_nil)
      (pss_cons (ps_asg (pe_op op_add (pe_ix ix_list (pv 0) pe_int (fun _ _ => rfl)) pe_int) (pg_sub (pv 0) pe_int set_list))
      (pss_cons (ps_set (i := 3) scDrw.nd rfl (.inl rfl) (pe_ix ix_list (pe_ix ix_list (pv 0) pe_int (fun _ _ => rfl)) (pe_op op_mod (pe_ix ix_list (pv 0) pe_int (fun _ _ => rfl)) (pe_callB call_len_seq (by rfl) ml PySem.boot_len (pa_cons (pe_ix ix_list (pv 0) pe_int (fun _ _ => rfl)) pa_nil))) (fun _ _ => rfl)))
      (pss_cons (ps_set (i := 4) scDrw.nd rfl (.inl rfl) (pe_op op_add (pe_op op_add (pe_op op_mulW (pe_ix ix_list (pv 0) pe_int (fun _ _ => rfl)) (pe_ix ix_list (pv 0) pe_int (fun _ _ => rfl))) (pe_op op_mul (pe_op op_add (pv 3) pe_int) pe_int)) (pe_op op_mul (pe_ix ix_list (pv 0) pe_int (fun _ _ => rfl)) pe_int)))
      (pss_cons (ps_asg (pe_op op_mod (pv 4) (pe_op op_sub (pe_op op_mul (pe_op op_pow pe_int pe_int) (pe_op op_pow pe_int pe_int)) pe_int)) (pg_sub (pv 0) pe_int set_list))
      (pss_one (ps_ret (pe_op op_mod (pe_op op_fdivW (pe_ix ix_list (pv 0) pe_int (fun _ _ => rfl)) (pe_op op_pow pe_int pe_int)) (pv 1)))))))), ?_⟩
    -- if reel[0] != []
    refine ⟨.ref r, rfl, r, _, 0, .ref g, rfl, rfl, SqL.of Hr, rfl, Nat.zero_le _, fun p0 np0 => ?_⟩
    have s0 : Same H (upd H p0 (.lst [])) := fun b o y => by rw [upd_ne (ne_of_none y np0)]; exact y
    refine ⟨.list (gs.map .int), .list [], .lst (SqL.of (s0 _ _ Hg)) (dp_ints gs), .lst (SqL.of upd_same) .nil, shaped_ints gs, shaped_ints [], _, rfl, ?_⟩
    cases gs with
    | cons n gs =>
      refine iteT ?_
      -- rest = reel[0][0]
      refine ⟨.ref r, rfl, r, _, 0, .ref g, rfl, rfl, SqL.of (s0 _ _ Hr), rfl, g, _, 0, .int n, rfl, rfl, SqL.of (s0 _ _ Hg), atI_nat (j := 0) rfl, ?_⟩
      -- [rest // many]
      refine ⟨.int n, rfl, .int m, rfl, n, m, rfl, rfl, hdivm, by show 1 ≤ sizeLine; decide, fun p1 np1 => ?_⟩
      have s1 : Same (upd H p0 (.lst [])) (upd (upd H p0 (.lst [])) p1 (.lst [.int (n / m)])) := fun b o y => by rw [upd_ne (ne_of_none y np1)]; exact y
      -- int(rest >= many)
      refine ⟨.int n, rfl, .int m, rfl, n, m, rfl, rfl, .inr ⟨_, rfl, ?_⟩⟩
      generalize hk : (if decide (m ≤ n) = true then (1 : Int) else 0) = k1
      have k1b : k1 = 0 ∨ k1 = 1 := by rw [← hk]; split <;> simp
      refine ⟨p1, k1, _, rfl, rfl, upd_same, by omega, by omega, ?_, fun p2 np2 => ?_⟩
      · show 1 * k1.toNat ≤ sizeLine
        rcases k1b with y | y <;> rw [y] <;> decide
      -- reel[0][1:]
      generalize hH2 : upd (upd H p0 (.lst [])) p1 (.lst [.int (n / m)]) = H2 at s1 np2
      have s2 : Same H2 (upd H2 p2 (.lst (List.replicate k1.toNat [V.int (n / m)]).flatten)) := fun b o y => by rw [upd_ne (ne_of_none y np2)]; exact y
      generalize hH3 : upd H2 p2 (.lst (List.replicate k1.toNat [V.int (n / m)]).flatten) = H3 at s2
      have s03 : Same H H3 := s0.trans (s1.trans s2)
      have hp2 : H3 p2 = some (.lst (List.replicate k1.toNat [V.int (n / m)]).flatten) := by rw [← hH3, upd_same]
      refine ⟨.ref r, rfl, r, _, 0, .ref g, rfl, rfl, SqL.of (s03 _ _ Hr), rfl, 1, rfl, g, _, rfl, SqL.of (s03 _ _ Hg), fun p3 np3 => ?_⟩
      have ec : cutV ((n :: gs).map V.int) (some 1) none = gs.map V.int := cut_tail _ _
      rw [ec]
      have s3 : Same H3 (upd H3 p3 (.lst (gs.map V.int))) := fun b o y => by rw [upd_ne (ne_of_none y np3)]; exact y
      have er : (List.replicate k1.toNat [V.int (n / m)]).flatten = ((List.replicate k1.toNat (n / m)).map V.int) := by
        rcases k1b with y | y <;> rw [y] <;> rfl
      refine ⟨p2, p3, _, _, rfl, rfl, s3 _ _ hp2, upd_same, ?_, fun p4 np4 => ?_⟩
      · rw [er, List.length_map, List.length_replicate, List.length_map]
        have : gs.length ≤ 63 := by simp at g2; omega
        have : k1.toNat ≤ 1 := by omega
        exact Nat.le_trans (by omega : _ ≤ 64) (by decide)
      generalize hH4 : upd H3 p3 (.lst (gs.map V.int)) = H4 at s3 np4
      have s04 : Same H H4 := s03.trans s3
      have s4 : Same H4 (upd H4 p4 (.lst ((List.replicate k1.toNat [V.int (n / m)]).flatten ++ gs.map V.int))) := fun b o y => by rw [upd_ne (ne_of_none y np4)]; exact y
      have s05 := s04.trans s4
      have hp4 : H p4 = none := by
        cases y : H p4 with
        | none => rfl
        | some u => have := s04 _ _ y; rw [np4] at this; cases this
      refine ⟨.ref r, rfl, r, _, 0, 0, rfl, rfl, s05 _ _ Hr, rfl, ?_⟩
      obtain ⟨R', st⟩ := reel_step (gs := []) (gs' := List.replicate k1.toNat (n / m) ++ gs) (g' := p4) (c' := c) (z' := z) wd hr0 s05 (.inr ⟨hp4, by rw [upd_same, er, List.map_append]⟩) he
        (fun x hx => by
          rcases List.mem_append.mp hx with y | y
          · rw [(List.mem_replicate.mp y).2]
            exact Int.ediv_nonneg (g1 n (by simp)) (Int.le_of_lt hm)
          · exact g1 x (List.mem_cons_of_mem _ y))
        (by
          rw [List.length_append, List.length_replicate]
          have h1 : k1.toNat ≤ 1 := by omega
          have h2 : gs.length + 1 ≤ 63 := by simpa using g2
          omega) e1 e2 e3 c1 z1 z2
      -- return rest % many
      refine ⟨.int n, rfl, .int m, rfl, n, m, rfl, rfl, hm, ?_⟩
      exact k0 _ _ _ _ _ (q _ (Int.emod_nonneg _ (by omega)) (Int.emod_lt_of_pos _ hm)) st (.int _)
    | nil =>
      refine iteF ?_
      show tSeq _ _ _ _ _
      -- reel[2] = reel[2] + 1
      refine ⟨.ref r, rfl, r, _, 2, .int c, rfl, rfl, SqL.of (s0 _ _ Hr), rfl, c, 1, rfl, rfl, .ref r, rfl, r, _, 2, 2, rfl, rfl, s0 _ _ Hr, rfl, ?_⟩
      generalize hH1 : upd (upd H p0 (.lst [])) r (.lst [.ref g, .ref e, .int (c + 1), .int z]) = H1
      have er : e ≠ r := reel_ne hr0 he
      have h1r : H1 r = some (.lst [.ref g, .ref e, .int (c + 1), .int z]) := by rw [← hH1, upd_same]
      have h1e : H1 e = some (.lst (es.map V.int)) := by rw [← hH1, upd_ne er]; exact s0 _ _ He
      have hgoal : (upd (upd H p0 (.lst [])) r (.lst ([V.ref g, V.ref e, V.int c, V.int z].set 2 (V.int (c + 1))))) = H1 := hH1
      rw [hgoal]
      -- extra
      have hes : 0 < (es.length : Int) := by omega
      have hi : ((c + 1) % (es.length : Int)).toNat < es.length := by
        have h1 := Int.emod_lt_of_pos (c + 1) hes
        have h2 := Int.emod_nonneg (c + 1) (show (es.length : Int) ≠ 0 by omega)
        omega
      have hx : (es.map V.int)[((c + 1) % (es.length : Int)).toNat]? = some (.int es[((c + 1) % (es.length : Int)).toNat]) := by
        rw [List.getElem?_map, List.getElem?_eq_getElem hi]
        rfl
      generalize hx0 : es[((c + 1) % (es.length : Int)).toNat] = x at hx
      have hxb : 0 ≤ x ∧ x < 1000003 := hx0 ▸ e3 _ (List.getElem_mem hi)
      have hat : atI (es.map V.int) ((c + 1) % (es.length : Int)) = some (.int x) := at_of (by
        have h2 := Int.emod_nonneg (c + 1) (show (es.length : Int) ≠ 0 by omega)
        omega) hx
      refine ⟨.ref r, rfl, r, _, 1, .ref e, rfl, rfl, SqL.of h1r, rfl, .ref r, rfl, r, _, 2, .int (c + 1), rfl, rfl, SqL.of h1r, rfl,
        .ref r, rfl, r, _, 1, .ref e, rfl, rfl, SqL.of h1r, rfl, e, _, rfl, .inl (SqL.of h1e), c + 1, (es.length : Int), rfl, by rw [List.length_map], hes, e, _, _, .int x, rfl, rfl, SqL.of h1e, hat, ?_⟩
      -- stir
      have zl : z.natAbs.log2 < 140 := log_lt z1 z2 (by decide)
      refine ⟨.ref r, rfl, r, _, 3, .int z, rfl, rfl, SqL.of h1r, rfl, .ref r, rfl, r, _, 3, .int z, rfl, rfl, SqL.of h1r, rfl, z, z, rfl, rfl, by show _ + _ < 1000000; omega,
        .int x, rfl, x, 17, rfl, rfl, x + 17, 27644437, rfl, rfl, .inl ⟨by omega, by omega⟩, z * z, (x + 17) * 27644437, rfl, rfl,
        .ref r, rfl, r, _, 2, .int (c + 1), rfl, rfl, SqL.of h1r, rfl, c + 1, 999959, rfl, rfl, .inr ⟨by decide, by decide⟩, _, _, rfl, rfl, ?_⟩
      obtain ⟨stir, hst⟩ : ∃ s : Int, s = z * z + (x + 17) * 27644437 + (c + 1) * 999959 := ⟨_, rfl⟩
      -- reel[3] = stir % M
      refine ⟨.int stir, (by rw [hst]; rfl), 2, 64, rfl, rfl, ⟨by decide, by decide, by decide⟩, 2, 63, rfl, rfl, ⟨by decide, by decide, by decide⟩, _, _, rfl, rfl, .inr ⟨by decide, by decide⟩, _, 1, rfl, rfl, stir, _, rfl, rfl, (by show (0 : Int) < 2 ^ (64 : Int).toNat * 2 ^ (63 : Int).toNat - 1; decide),
        .ref r, rfl, r, _, 3, 3, rfl, rfl, h1r, rfl, ?_⟩
      generalize hM : (2 ^ (64 : Int).toNat * 2 ^ (63 : Int).toNat - 1 : Int) = M
      have hM0 : 0 < M := by rw [← hM]; decide
      have hM1 : M < 2 ^ 140 := by rw [← hM]; decide
      have z1' := Int.emod_nonneg stir (show M ≠ 0 by omega)
      have z2' := Int.emod_lt_of_pos stir hM0
      obtain ⟨z', hz'⟩ : ∃ z', z' = stir % M := ⟨_, rfl⟩
      rw [← hz'] at z1' z2'
      have eH : upd H1 r (.lst ([V.ref g, V.ref e, V.int (c + 1), V.int z].set 3 (V.int (stir % M)))) = upd (upd H p0 (.lst [])) r (.lst [.ref g, .ref e, .int (c + 1), .int z']) := by
        rw [← hH1, ← hz']
        exact upd_upd
      rw [eH]
      obtain ⟨R', st⟩ := reel_step (g' := g) (gs' := []) (c' := c + 1) (z' := z') wd hr0 s0 (.inl ⟨rfl, rfl, hg⟩) he (fun x hx => by cases hx) (Nat.zero_le _) e1 e2 e3 (by omega) z1' (by omega)
      -- return
      refine ⟨.ref r, rfl, r, _, 3, .int z', rfl, rfl, SqL.of upd_same, rfl, 2, 41, rfl, rfl, ⟨by decide, by decide, by decide⟩, z', _, rfl, rfl, ⟨by decide, by decide⟩, .int m, rfl, _, m, rfl, rfl, hm, ?_⟩
      exact k0 _ _ _ _ _ (q _ (Int.emod_nonneg _ (by omega)) (Int.emod_lt_of_pos _ hm)) st (.int _)
end

section
variable {P : Program} {w : World} {K : PySem.W.Frag} {mg : Str → Option Value} {base : Heap}
local macro_rules | `(tactic| walk_at "nm") => `(tactic| first | ((with_reducible show WE _ (Expr.Name "script" _) _ _); refine we_name 0 rfl (by walk_at "vis") rfl ?_) | ((with_reducible show WE _ (Expr.Name "stir" _) _ _); refine we_name 1 rfl (by walk_at "vis") rfl ?_) | ((with_reducible show WE _ (Expr.Name "cell" _) _ _); refine we_name 2 rfl (by walk_at "vis") rfl ?_) | ((with_reducible show WE _ (Expr.Name "great" _) _ _); refine we_name 3 rfl (by walk_at "vis") rfl ?_))
local macro_rules | `(tactic| walk_at "no") => `(tactic| first | ((with_reducible show WO _ (Expr.Name "script" _) _ _); refine wo_own 0 rfl (by walk_at "vis") rfl ?_) | ((with_reducible show WO _ (Expr.Name "stir" _) _ _); refine wo_own 1 rfl (by walk_at "vis") rfl ?_) | ((with_reducible show WO _ (Expr.Name "cell" _) _ _); refine wo_own 2 rfl (by walk_at "vis") rfl ?_) | ((with_reducible show WO _ (Expr.Name "great" _) _ _); refine wo_own 3 rfl (by walk_at "vis") rfl ?_))
local macro_rules | `(tactic| walk_at "rel") => `(tactic| first | ((with_reducible show WG _ (Expr.Name "script" _ :: _) _ _); refine wg_rel 0 rfl (by walk_at "vis") rfl ?_) | ((with_reducible show WG _ (Expr.Name "stir" _ :: _) _ _); refine wg_rel 1 rfl (by walk_at "vis") rfl ?_) | ((with_reducible show WG _ (Expr.Name "cell" _ :: _) _ _); refine wg_rel 2 rfl (by walk_at "vis") rfl ?_) | ((with_reducible show WG _ (Expr.Name "great" _ :: _) _ _); refine wg_rel 3 rfl (by walk_at "vis") rfl ?_))
local macro_rules | `(tactic| walk_at "set") => `(tactic| first | ((with_reducible show W1 _ (Stmt.Assign [Expr.Name "script" _] _ _) _ _); refine w1_set 0 ?_ rfl (by walk_at "loc") (Or.inl rfl)) | ((with_reducible show W1 _ (Stmt.Assign [Expr.Name "stir" _] _ _) _ _); refine w1_set 1 ?_ rfl (by walk_at "loc") (Or.inl rfl)) | ((with_reducible show W1 _ (Stmt.Assign [Expr.Name "cell" _] _ _) _ _); refine w1_set 2 ?_ rfl (by walk_at "loc") (Or.inl rfl)) | ((with_reducible show W1 _ (Stmt.Assign [Expr.Name "great" _] _ _) _ _); refine w1_set 3 ?_ rfl (by walk_at "loc") (Or.inl rfl)))
local macro_rules | `(tactic| walk_at "app") => `(tactic| first | ((with_reducible show W1 _ (Stmt.Expr (Expr.Call (Expr.Attribute (Expr.Name "script" _) _ _) _ _ _) _) _ _); refine w1_append 0 rfl ?_ rfl (by walk_at "vis")) | ((with_reducible show W1 _ (Stmt.Expr (Expr.Call (Expr.Attribute (Expr.Name "stir" _) _ _) _ _ _) _) _ _); refine w1_append 1 rfl ?_ rfl (by walk_at "vis")) | ((with_reducible show W1 _ (Stmt.Expr (Expr.Call (Expr.Attribute (Expr.Name "cell" _) _ _) _ _ _) _) _ _); refine w1_append 2 rfl ?_ rfl (by walk_at "vis")) | ((with_reducible show W1 _ (Stmt.Expr (Expr.Call (Expr.Attribute (Expr.Name "great" _) _ _) _ _ _) _) _ _); refine w1_append 3 rfl ?_ rfl (by walk_at "vis")))
local macro_rules | `(tactic| walk_at "sto") => `(tactic| first | ((with_reducible show W1 _ (Stmt.Assign [Expr.Subscript (Expr.Name "script" _) _ _] _ _) _ _); refine w1_store 0 rfl ?_ rfl (by walk_at "vis")) | ((with_reducible show W1 _ (Stmt.Assign [Expr.Subscript (Expr.Name "stir" _) _ _] _ _) _ _); refine w1_store 1 rfl ?_ rfl (by walk_at "vis")) | ((with_reducible show W1 _ (Stmt.Assign [Expr.Subscript (Expr.Name "cell" _) _ _] _ _) _ _); refine w1_store 2 rfl ?_ rfl (by walk_at "vis")) | ((with_reducible show W1 _ (Stmt.Assign [Expr.Subscript (Expr.Name "great" _) _ _] _ _) _ _); refine w1_store 3 rfl ?_ rfl (by walk_at "vis")))
local macro_rules | `(tactic| walk_at "tg") => `(tactic| first | ((with_reducible show WTg _ (Expr.Name "script" _) _ _ _ _); refine wtg_name 0 rfl (by walk_at "loc") (by walk_at "loc") ?_) | ((with_reducible show WTg _ (Expr.Name "stir" _) _ _ _ _); refine wtg_name 1 rfl (by walk_at "loc") (by walk_at "loc") ?_) | ((with_reducible show WTg _ (Expr.Name "cell" _) _ _ _ _); refine wtg_name 2 rfl (by walk_at "loc") (by walk_at "loc") ?_) | ((with_reducible show WTg _ (Expr.Name "great" _) _ _ _ _); refine wtg_name 3 rfl (by walk_at "loc") (by walk_at "loc") ?_))

theorem ws_reel {k : Nat} (as : List SV) (Q : PyData → Prop) (h : wReel as Q) :
    WS ⟨P, w, K, mg, base, ["script", "stir", "cell", "great"], defScope sRel, fun _ => true, k⟩ (defBody sRel) (startR ["script", "stir", "cell", "great"] as) (endR Q) := by
  obtain ⟨ns, rfl, hl, q⟩ := h
  have htk : ns.take 63 = ns := List.take_of_length_le hl
  repeat walk_at "s"
  -- for cell in script[:63]
  refine w1_for [2] (wi_list (we_sliceScr 0 (n := 63) rfl (Or.inl rfl) rfl ⟨_, rfl, fun i ρ' => ∃ z c, 0 ≤ z ∧ z < 2 ^ 140 ∧ ρ' = [some (.scr ns), some (.dat (.int z)), c, none], ⟨_, none, ?_, ?_, rfl⟩, fun i d ρ' hd hJ => ?_, fun ρ' hJ => ?_⟩))
  · decide
  · decide
  · obtain ⟨z, c, z1, z2, rfl⟩ := hJ
    obtain ⟨n, rfl⟩ : ∃ n, d = .int n := by
      rw [List.getElem?_map] at hd
      cases y : (ns.take 63)[i]? with
      | none => rw [y] at hd; cases hd
      | some n => rw [y] at hd; cases hd; exact ⟨n, rfl⟩
    have zl : z.natAbs.log2 < 140 := log_lt z1 z2 (by decide)
    walk_at "tg"
    repeat walk_at "s"
    refine ⟨(by show _ + _ < 1000000; omega), ?_⟩
    repeat walk_at "s"
    refine ⟨(by show _ < 1000000; decide), ?_⟩
    repeat walk_at "s"
    refine ⟨_, some (.dat (.int n)), Int.emod_nonneg _ (by decide), Int.lt_trans (Int.emod_lt_of_pos _ (by decide)) (by decide), rfl⟩
  · obtain ⟨z, c, z1, z2, rfl⟩ := hJ
    -- great
    refine ws_cons (w1_setLc 3 [("cell", 2)] [2] (wi_list (we_sliceScr 0 (n := 63) rfl (Or.inl rfl) rfl ⟨_, rfl, ?_, fun i acc => ∃ gs : List Int, acc = gs.map .int ∧ gs.length ≤ i ∧ ∀ x ∈ gs, 0 ≤ x, ⟨[], rfl, Nat.le_refl _, fun x hx => by cases hx⟩, fun i d acc hd hJ => ?_, fun acc hJ => ?_⟩)) rfl rfl rfl)
    · rw [List.length_map, htk]; omega
    · obtain ⟨gs, rfl, g1, g2⟩ := hJ
      obtain ⟨n, rfl⟩ : ∃ n, d = .int n := by
        rw [List.getElem?_map] at hd
        cases y : (ns.take 63)[i]? with
        | none => rw [y] at hd; cases hd
        | some n => rw [y] at hd; cases hd; exact ⟨n, rfl⟩
      walk_at "tg"
      show WT _ _ _ _
      repeat walk_at "s"
      · rename_i hb
        have hb' : (10 ^ (18 : Int).toNat : Int) ≤ n := of_decide_eq_true hb
        refine ⟨gs ++ [n - 10 ^ (18 : Int).toNat], by rw [List.map_append]; rfl, by rw [List.length_append]; exact Nat.succ_le_succ g1, fun x hx => ?_⟩
        rcases List.mem_append.mp hx with y | y
        · exact g2 x y
        · rw [List.mem_singleton.mp y]; omega
      · exact ⟨gs, rfl, by omega, g2⟩
    · obtain ⟨gs, rfl, g1, g2⟩ := hJ
      have g1' : gs.length ≤ 63 := by rw [List.length_map, htk] at g1; omega
      -- return [great, [..] + [57], 0, stir]
      repeat walk_at "s"
      refine we_lcM [("cell", 2)] [2] (fun d => match d with | .int n => .int (n % 1000003) | _ => .none) (wi_list (we_sliceScr 0 (n := 63) rfl (Or.inl rfl) rfl ⟨_, rfl, ?_, fun d hd => ?_, ?_⟩))
      · rw [List.length_map, htk]; omega
      · obtain ⟨n, hn, rfl⟩ := List.mem_map.mp hd
        walk_at "tg"
        repeat walk_at "s"
        all_goals rfl
      · rw [htk, List.map_map]
        repeat walk_at "s"
        refine ⟨?_, ?_⟩
        · rw [List.length_map]
          exact Nat.le_trans (show ns.length + 1 ≤ 64 by omega) (by decide)
        · repeat walk_at "s"
          have e : List.map ((fun d => match d with | .int n => PyData.int (n % 1000003) | _ => .none) ∘ PyData.int) ns ++ [PyData.int 57] = (ns.map (· % 1000003) ++ [57]).map PyData.int := by
            rw [List.map_append, List.map_map]
            rfl
          have e2 := q gs (ns.map (· % 1000003) ++ [57]) z g2 g1' (by simp) (by simp; omega) (fun x hx => by
            rcases List.mem_append.mp hx with y | y
            · obtain ⟨n, _, rfl⟩ := List.mem_map.mp y
              exact ⟨Int.emod_nonneg _ (by decide), Int.emod_lt_of_pos _ (by decide)⟩
            · rw [List.mem_singleton.mp y]; decide) z1 z2
          rw [← e] at e2
          exact e2
end

def wHis : Wp := fun as Q => ∃ r m : Int, as = [.rel, .dat (.int r), .dat (.int m)] ∧ 1 ≤ r ∧ r < 2 ^ 8000 ∧ 0 ≤ m ∧ m ≤ 100000 ∧ ∀ xs : List Int, xs.length = m.toNat → (∀ x ∈ xs, 0 ≤ x ∧ x < r) → Q (.list (xs.map .int))
theorem eqv_nil (xs : List Int) : PyData.eqv (.list (xs.map PyData.int)) (.list []) = xs.isEmpty := by cases xs <;> rfl
theorem shaped_int (i : Int) : SeqAt.shaped (.int i) = true := rfl
section
variable {P : Program} {w : World} {K : PySem.W.Frag} {mg : Str → Option Value} {base : Heap}
local macro_rules | `(tactic| walk_at "nm") => `(tactic| first | ((with_reducible show WE _ (Expr.Name "reel" _) _ _); refine we_name 0 rfl (by walk_at "vis") rfl ?_) | ((with_reducible show WE _ (Expr.Name "readers" _) _ _); refine we_name 1 rfl (by walk_at "vis") rfl ?_) | ((with_reducible show WE _ (Expr.Name "many" _) _ _); refine we_name 2 rfl (by walk_at "vis") rfl ?_) | ((with_reducible show WE _ (Expr.Name "way" _) _ _); refine we_name 3 rfl (by walk_at "vis") rfl ?_) | ((with_reducible show WE _ (Expr.Name "found" _) _ _); refine we_name 4 rfl (by walk_at "vis") rfl ?_) | ((with_reducible show WE _ (Expr.Name "turn" _) _ _); refine we_name 5 rfl (by walk_at "vis") rfl ?_) | ((with_reducible show WE _ (Expr.Name "reader" _) _ _); refine we_name 6 rfl (by walk_at "vis") rfl ?_))
local macro_rules | `(tactic| walk_at "no") => `(tactic| first | ((with_reducible show WO _ (Expr.Name "reel" _) _ _); refine wo_own 0 rfl (by walk_at "vis") rfl ?_) | ((with_reducible show WO _ (Expr.Name "readers" _) _ _); refine wo_own 1 rfl (by walk_at "vis") rfl ?_) | ((with_reducible show WO _ (Expr.Name "many" _) _ _); refine wo_own 2 rfl (by walk_at "vis") rfl ?_) | ((with_reducible show WO _ (Expr.Name "way" _) _ _); refine wo_own 3 rfl (by walk_at "vis") rfl ?_) | ((with_reducible show WO _ (Expr.Name "found" _) _ _); refine wo_own 4 rfl (by walk_at "vis") rfl ?_) | ((with_reducible show WO _ (Expr.Name "turn" _) _ _); refine wo_own 5 rfl (by walk_at "vis") rfl ?_) | ((with_reducible show WO _ (Expr.Name "reader" _) _ _); refine wo_own 6 rfl (by walk_at "vis") rfl ?_))
local macro_rules | `(tactic| walk_at "rel") => `(tactic| first | ((with_reducible show WG _ (Expr.Name "reel" _ :: _) _ _); refine wg_rel 0 rfl (by walk_at "vis") rfl ?_) | ((with_reducible show WG _ (Expr.Name "readers" _ :: _) _ _); refine wg_rel 1 rfl (by walk_at "vis") rfl ?_) | ((with_reducible show WG _ (Expr.Name "many" _ :: _) _ _); refine wg_rel 2 rfl (by walk_at "vis") rfl ?_) | ((with_reducible show WG _ (Expr.Name "way" _ :: _) _ _); refine wg_rel 3 rfl (by walk_at "vis") rfl ?_) | ((with_reducible show WG _ (Expr.Name "found" _ :: _) _ _); refine wg_rel 4 rfl (by walk_at "vis") rfl ?_) | ((with_reducible show WG _ (Expr.Name "turn" _ :: _) _ _); refine wg_rel 5 rfl (by walk_at "vis") rfl ?_) | ((with_reducible show WG _ (Expr.Name "reader" _ :: _) _ _); refine wg_rel 6 rfl (by walk_at "vis") rfl ?_))
local macro_rules | `(tactic| walk_at "set") => `(tactic| first | ((with_reducible show W1 _ (Stmt.Assign [Expr.Name "reel" _] _ _) _ _); refine w1_set 0 ?_ rfl (by walk_at "loc") (Or.inl rfl)) | ((with_reducible show W1 _ (Stmt.Assign [Expr.Name "readers" _] _ _) _ _); refine w1_set 1 ?_ rfl (by walk_at "loc") (Or.inl rfl)) | ((with_reducible show W1 _ (Stmt.Assign [Expr.Name "many" _] _ _) _ _); refine w1_set 2 ?_ rfl (by walk_at "loc") (Or.inl rfl)) | ((with_reducible show W1 _ (Stmt.Assign [Expr.Name "way" _] _ _) _ _); refine w1_set 3 ?_ rfl (by walk_at "loc") (Or.inl rfl)) | ((with_reducible show W1 _ (Stmt.Assign [Expr.Name "found" _] _ _) _ _); refine w1_set 4 ?_ rfl (by walk_at "loc") (Or.inl rfl)) | ((with_reducible show W1 _ (Stmt.Assign [Expr.Name "turn" _] _ _) _ _); refine w1_set 5 ?_ rfl (by walk_at "loc") (Or.inl rfl)) | ((with_reducible show W1 _ (Stmt.Assign [Expr.Name "reader" _] _ _) _ _); refine w1_set 6 ?_ rfl (by walk_at "loc") (Or.inl rfl)))
local macro_rules | `(tactic| walk_at "app") => `(tactic| first | ((with_reducible show W1 _ (Stmt.Expr (Expr.Call (Expr.Attribute (Expr.Name "reel" _) _ _) _ _ _) _) _ _); refine w1_append 0 rfl ?_ rfl (by walk_at "vis")) | ((with_reducible show W1 _ (Stmt.Expr (Expr.Call (Expr.Attribute (Expr.Name "readers" _) _ _) _ _ _) _) _ _); refine w1_append 1 rfl ?_ rfl (by walk_at "vis")) | ((with_reducible show W1 _ (Stmt.Expr (Expr.Call (Expr.Attribute (Expr.Name "many" _) _ _) _ _ _) _) _ _); refine w1_append 2 rfl ?_ rfl (by walk_at "vis")) | ((with_reducible show W1 _ (Stmt.Expr (Expr.Call (Expr.Attribute (Expr.Name "way" _) _ _) _ _ _) _) _ _); refine w1_append 3 rfl ?_ rfl (by walk_at "vis")) | ((with_reducible show W1 _ (Stmt.Expr (Expr.Call (Expr.Attribute (Expr.Name "found" _) _ _) _ _ _) _) _ _); refine w1_append 4 rfl ?_ rfl (by walk_at "vis")) | ((with_reducible show W1 _ (Stmt.Expr (Expr.Call (Expr.Attribute (Expr.Name "turn" _) _ _) _ _ _) _) _ _); refine w1_append 5 rfl ?_ rfl (by walk_at "vis")) | ((with_reducible show W1 _ (Stmt.Expr (Expr.Call (Expr.Attribute (Expr.Name "reader" _) _ _) _ _ _) _) _ _); refine w1_append 6 rfl ?_ rfl (by walk_at "vis")))
local macro_rules | `(tactic| walk_at "sto") => `(tactic| first | ((with_reducible show W1 _ (Stmt.Assign [Expr.Subscript (Expr.Name "reel" _) _ _] _ _) _ _); refine w1_store 0 rfl ?_ rfl (by walk_at "vis")) | ((with_reducible show W1 _ (Stmt.Assign [Expr.Subscript (Expr.Name "readers" _) _ _] _ _) _ _); refine w1_store 1 rfl ?_ rfl (by walk_at "vis")) | ((with_reducible show W1 _ (Stmt.Assign [Expr.Subscript (Expr.Name "many" _) _ _] _ _) _ _); refine w1_store 2 rfl ?_ rfl (by walk_at "vis")) | ((with_reducible show W1 _ (Stmt.Assign [Expr.Subscript (Expr.Name "way" _) _ _] _ _) _ _); refine w1_store 3 rfl ?_ rfl (by walk_at "vis")) | ((with_reducible show W1 _ (Stmt.Assign [Expr.Subscript (Expr.Name "found" _) _ _] _ _) _ _); refine w1_store 4 rfl ?_ rfl (by walk_at "vis")) | ((with_reducible show W1 _ (Stmt.Assign [Expr.Subscript (Expr.Name "turn" _) _ _] _ _) _ _); refine w1_store 5 rfl ?_ rfl (by walk_at "vis")) | ((with_reducible show W1 _ (Stmt.Assign [Expr.Subscript (Expr.Name "reader" _) _ _] _ _) _ _); refine w1_store 6 rfl ?_ rfl (by walk_at "vis")))
local macro_rules | `(tactic| walk_at "tg") => `(tactic| first | ((with_reducible show WTg _ (Expr.Name "reel" _) _ _ _ _); refine wtg_name 0 rfl (by walk_at "loc") (by walk_at "loc") ?_) | ((with_reducible show WTg _ (Expr.Name "readers" _) _ _ _ _); refine wtg_name 1 rfl (by walk_at "loc") (by walk_at "loc") ?_) | ((with_reducible show WTg _ (Expr.Name "many" _) _ _ _ _); refine wtg_name 2 rfl (by walk_at "loc") (by walk_at "loc") ?_) | ((with_reducible show WTg _ (Expr.Name "way" _) _ _ _ _); refine wtg_name 3 rfl (by walk_at "loc") (by walk_at "loc") ?_) | ((with_reducible show WTg _ (Expr.Name "found" _) _ _ _ _); refine wtg_name 4 rfl (by walk_at "loc") (by walk_at "loc") ?_) | ((with_reducible show WTg _ (Expr.Name "turn" _) _ _ _ _); refine wtg_name 5 rfl (by walk_at "loc") (by walk_at "loc") ?_) | ((with_reducible show WTg _ (Expr.Name "reader" _) _ _ _ _); refine wtg_name 6 rfl (by walk_at "loc") (by walk_at "loc") ?_))

local macro_rules | `(tactic| walk_at "fn") => `(tactic| first | ((with_reducible show WE _ (Expr.Call (Expr.Name "_law_draw" _) _ _ _) _ _); refine we_call (by with_reducible assumption) (by dsimp only; omega) ?_))

theorem ws_his {k : Nat} (hk : 1 ≤ k) (mr : mg "range" = none) (hDr : Has P w K mg base "_law_draw" 1 wDraw) (as : List SV) (Q : PyData → Prop) (h : wHis as Q) :
    WS ⟨P, w, K, mg, base, ["reel", "readers", "many", "way", "found", "turn", "reader"], defScope sHis, fun _ => true, k⟩ (defBody sHis) (startR ["reel", "readers", "many", "way", "found", "turn", "reader"] as) (endR Q) := by
  obtain ⟨r, m, rfl, r1, r2, m1, m2, q⟩ := h
  refine ws_cons (w1_parO 3 4 ?_ rfl rfl (by decide) rfl rfl rfl ?_)
  case refine_2 =>
    intro env h1
    obtain ⟨sc, e1, e2, e3, e4, e5, e6, e7, e8⟩ := env
    cases (show sc = defScope sHis from h1)
    rfl
  repeat walk_at "s"
  rename_i way w0 w4
  refine wf_list (wd_nil ⟨Nat.zero_le _, ?_⟩)
  repeat walk_at "s"
  refine w1_for [5] (wi_range ?_ mr)
  refine WO.of ?_
  walk_at "nm"
  refine ⟨m, rfl, by omega, by omega, fun i ρ' => ∃ (xs : List Int) (t u : Option SV), xs.length = i ∧ (∀ x ∈ xs, 0 ≤ x ∧ x < r) ∧ ρ' = [some .rel, some (.dat (.int r)), some (.dat (.int m)), some (.dat (.int way)), some (.own (xs.map .int)), t, u],
    ⟨[], none, none, rfl, fun x hx => (by cases hx), rfl⟩, fun i d ρ' hd hJ => ?_, fun ρ' hJ => ?_⟩
  · obtain ⟨xs, t, u, hxl, hxs, rfl⟩ := hJ
    obtain ⟨hi, rfl⟩ : i < m.toNat ∧ d = .int (i : Int) := by
      have hi : i < m.toNat := by
        have := (List.getElem?_eq_some_iff.mp hd).1
        rwa [upTo_len] at this
      rw [upTo_get hi] at hd
      exact ⟨hi, (Option.some.inj hd).symm⟩
    walk_at "tg"
    walk_at "S"
    walk_at "set"
    repeat walk_at "q"
    rename_i v v0 v1
    let M : Rho → Prop := fun ρ' => ∃ v : Int, 0 ≤ v ∧ v < r ∧ ρ' = [some .rel, some (.dat (.int r)), some (.dat (.int m)), some (.dat (.int way)), some (.own (xs.map .int)), some (.dat (.int (i : Int))), some (.dat (.int v))]
    refine ws_cut M ?_ fun ρ' ⟨v, v0, v1, e⟩ => ?_
    · walk_at "1"
      repeat walk_at "q"
      · walk_at "S"
        walk_at "1"
        repeat walk_at "q"
        have h2 := Int.emod_nonneg v (show (2 : Int) ≠ 0 by decide)
        have h3 : v % 2 ≤ v := by omega
        exact ws_nil ⟨v % 2, h2, by omega, rfl⟩
      all_goals first | exact ws_nil ⟨v, v0, v1, rfl⟩ | exact ⟨fun z => (by cases z), fun _ => ws_nil ⟨v, v0, v1, rfl⟩⟩
    subst e
    refine ws_cut M ?_ fun ρ' ⟨v, v0, v1, e⟩ => ?_
    · walk_at "1"
      repeat walk_at "q"
      · walk_at "S"
        walk_at "1"
        repeat walk_at "q"
        exact ws_nil ⟨(i : Int) % r, Int.emod_nonneg _ (by omega), Int.emod_lt_of_pos _ (by omega), rfl⟩
      all_goals first | exact ws_nil ⟨v, v0, v1, rfl⟩ | exact ⟨fun z => (by cases z), fun _ => ws_nil ⟨v, v0, v1, rfl⟩⟩
    subst e
    refine ws_cut M ?_ fun ρ' ⟨v, v0, v1, e⟩ => ?_
    · walk_at "1"
      repeat walk_at "q"
      · rename_i hne _ _ _ _
        have hne : xs ≠ [] := fun z => by rw [z] at hne; cases hne
        have h0 : 0 < i := by rw [← hxl]; exact List.length_pos_iff.mpr hne
        have h1 : i / 2 < xs.length := by omega
        walk_at "S"
        walk_at "1"
        repeat walk_at "q"
        refine ⟨⟨by decide, by decide⟩, ?_⟩
        refine ⟨.int xs[i / 2], atI_of (j := i / 2) (by omega) (by rw [List.getElem?_map, List.getElem?_eq_getElem h1]; rfl), ?_⟩
        exact ws_nil ⟨xs[i / 2], (hxs _ (List.getElem_mem h1)).1, (hxs _ (List.getElem_mem h1)).2, rfl⟩
      all_goals first | exact ws_nil ⟨v, v0, v1, rfl⟩ | exact ⟨fun z => (by cases z), fun _ => ws_nil ⟨v, v0, v1, rfl⟩⟩
    subst e
    walk_at "S"
    walk_at "1"
    repeat walk_at "q"
    refine ⟨by rw [List.length_map, hxl]; exact Nat.lt_of_lt_of_le (show i < 100001 by omega) (by decide), ?_⟩
    refine ws_nil ⟨xs ++ [v], _, _, by rw [List.length_append, hxl]; rfl, fun x hx => ?_, by rw [List.map_append]; rfl⟩
    rcases List.mem_append.mp hx with y | y
    · exact hxs x y
    · rw [List.mem_singleton.mp y]; exact ⟨v0, v1⟩
  · obtain ⟨xs, t, u, hxl, hxs, rfl⟩ := hJ
    refine ws_freeze 4 rfl ?_
    repeat walk_at "s"
    rw [upTo_len] at hxl
    exact q xs hxl hxs
end


end Tee

namespace Tee
open PySem PySem.Spec PyProof.Rows L2
local macro_rules | `(tactic| walk_at "vis") => `(tactic| first | exact Or.inl rfl | exact Or.inr (Or.inl rfl) | exact Or.inr (Or.inr rfl))
local macro_rules | `(tactic| walk_at "loc") => `(tactic| first | exact Or.inl rfl | exact Or.inr rfl)
local macro_rules | `(tactic| walk_at "e") => `(tactic| first | ((with_reducible show WE _ (Expr.Call (Expr.Name "len" _) [Expr.Name "script" _] _ _) _ _); refine we_lenScr 0 rfl (by walk_at "vis") rfl ?_ (by with_reducible assumption)) | ((with_reducible show WE _ (Expr.Constant (Const.int _) _ _) _ _); refine we_int ?_) | ((with_reducible show WE _ (Expr.Constant (Const.str _) _ _) _ _); refine we_str ?_) | ((with_reducible show WE _ (Expr.Constant (Const.bool true) _ _) _ _); refine we_true ?_) | ((with_reducible show WE _ (Expr.Constant (Const.bool false) _ _) _ _); refine we_false ?_) | ((with_reducible show WE _ (Expr.Constant Const.none _ _) _ _); refine we_none ?_) | ((with_reducible show WE _ (Expr.BinOp _ Operator.Add _ _) _ _); refine we_plus ?_) | ((with_reducible show WE _ (Expr.BinOp _ Operator.Sub _ _) _ _); refine we_minus ?_) | ((with_reducible show WE _ (Expr.BinOp _ Operator.Mult _ _) _ _); refine we_times ?_) | ((with_reducible show WE _ (Expr.BinOp _ Operator.FloorDiv _ _) _ _); refine we_fdiv ?_) | ((with_reducible show WE _ (Expr.BinOp _ Operator.Mod _ _) _ _); refine we_mod ?_) | ((with_reducible show WE _ (Expr.BinOp _ Operator.Pow _ _) _ _); refine we_pow ?_) | ((with_reducible show WE _ (Expr.UnaryOp UnaryOp.USub _ _) _ _); refine we_neg ?_) | ((with_reducible show WE _ (Expr.UnaryOp UnaryOp.Not _ _) _ _); refine we_not ?_) | ((with_reducible show WE _ (Expr.Compare _ [_] [_] _) _ _); refine we_cmp ?_) | ((with_reducible show WE _ (Expr.Compare _ [_, _] [_, _] _) _ _); refine we_chain ?_) | ((with_reducible show WE _ (Expr.BoolOp BoolOp.And (_ :: _ :: _) _) _ _); refine we_and ?_) | ((with_reducible show WE _ (Expr.BoolOp BoolOp.Or (_ :: _ :: _) _) _ _); refine we_or ?_) | ((with_reducible show WE _ (Expr.BoolOp _ [_] _) _ _); refine we_one ?_) | ((with_reducible show WE _ (Expr.IfExp _ _ _ _) _ _); refine we_ifExp ?_) | ((with_reducible show WE _ (Expr.Subscript _ (Expr.Slice _ _ _ _) _) _ _); refine we_slice ?_) | ((with_reducible show WE _ (Expr.Subscript _ _ _) _ _); refine we_ix ?_) | ((with_reducible show WE _ (Expr.List _ _) _ _); refine we_list ?_) | ((with_reducible show WE _ (Expr.Tuple _ _ _) _ _); refine we_tuple ?_) | ((with_reducible show WE _ (Expr.Dict [] [] _) _ _); refine we_dict0 ?_) | ((with_reducible show WE _ (Expr.Dict [_] [_] _) _ _); refine we_dict1 ?_) | ((with_reducible show WE _ (Expr.Call (Expr.Name "len" _) [_] _ _) _ _); refine we_len ?_ (by with_reducible assumption)) | ((with_reducible show WE _ (Expr.Call (Expr.Name "sum" _) [_] _ _) _ _); refine we_sum ?_ (by with_reducible assumption)) | ((with_reducible show WE _ (Expr.Call (Expr.Name "max" _) [_] _ _) _ _); refine we_max ?_ (by with_reducible assumption)) | ((with_reducible show WE _ (Expr.Call (Expr.Name "min" _) [_] _ _) _ _); refine we_min ?_ (by with_reducible assumption)) | ((with_reducible show WE _ (Expr.Call (Expr.Name "max" _) [_, _] _ _) _ _); refine we_max2 ?_ (by with_reducible assumption)) | ((with_reducible show WE _ (Expr.Call (Expr.Name "min" _) [_, _] _ _) _ _); refine we_min2 ?_ (by with_reducible assumption)) | ((with_reducible show WE _ (Expr.Call (Expr.Name "int" _) [_] _ _) _ _); refine we_toInt ?_ (by with_reducible assumption)) | ((with_reducible show WE _ (Expr.Call (Expr.Name "tuple" _) [_] _ _) _ _); refine we_toTup ?_ (by with_reducible assumption)) | ((with_reducible show WE _ (Expr.Call (Expr.Name "list" _) [_] _ _) _ _); refine we_toLis ?_ (by with_reducible assumption)) | ((with_reducible show WE _ (Expr.Call (Expr.Name "all" _) [_] _ _) _ _); refine we_all ?_ (by with_reducible assumption)) | ((with_reducible show WE _ (Expr.Call (Expr.Name "any" _) [_] _ _) _ _); refine we_any ?_ (by with_reducible assumption)) | ((with_reducible show WE _ (Expr.Call (Expr.Name "repr" _) [_] _ _) _ _); refine we_repr ?_ (by with_reducible assumption)) | ((with_reducible show WE _ (Expr.Call (Expr.Name "isinstance" _) [_, Expr.Name "int" _] _ _) _ _); refine we_isi (n := "int") ?_ PyProof.Rows.boot_int (by with_reducible assumption) (by with_reducible assumption)) | ((with_reducible show WE _ (Expr.Call (Expr.Name "isinstance" _) [_, Expr.Name "bool" _] _ _) _ _); refine we_isi (n := "bool") ?_ PyProof.Rows.boot_bool (by with_reducible assumption) (by with_reducible assumption)) | ((with_reducible show WE _ (Expr.Call (Expr.Name "isinstance" _) [_, Expr.Tuple _ _ _] _ _) _ _); refine we_isi2 (n := "list") (n' := "tuple") ?_ PyProof.Rows.boot_list PyProof.Rows.boot_tuple (by with_reducible assumption) (by with_reducible assumption) (by with_reducible assumption)) | ((with_reducible show WE _ (Expr.Name _ _) _ _); walk_at "nm") | ((with_reducible show WE _ (Expr.Call (Expr.Name _ _) _ _ _) _ _); walk_at "fn"))
local macro_rules | `(tactic| walk_at "o") => `(tactic| first | ((with_reducible show WO _ (Expr.Name _ _) _ _); walk_at "no") | refine WO.of ?_)
local macro_rules | `(tactic| walk_at "t") => `(tactic| first | ((with_reducible show WT _ (Expr.Compare _ [_] [_] _) _ _); refine wt_cmp ?_) | ((with_reducible show WT _ (Expr.UnaryOp UnaryOp.Not _ _) _ _); refine wt_not ?_) | ((with_reducible show WT _ (Expr.BoolOp _ _ _) _ _); refine wt_bool ?_) | refine wt_val ?_)
local macro_rules | `(tactic| walk_at "w") => `(tactic| first | ((with_reducible show WW _ (Expr.BoolOp BoolOp.And (_ :: _ :: _) _) _ _); refine ww_and ?_) | ((with_reducible show WW _ (Expr.BoolOp BoolOp.Or (_ :: _ :: _) _) _ _); refine ww_or ?_) | ((with_reducible show WW _ (Expr.BoolOp BoolOp.And _ _) _ _); refine ww_and1 ?_) | ((with_reducible show WW _ (Expr.BoolOp BoolOp.Or _ _) _ _); refine ww_or1 ?_))
local macro_rules | `(tactic| walk_at "g") => `(tactic| first | ((with_reducible show WG _ [] _ _); refine wg_nil ?_) | ((with_reducible show WG _ (Expr.Name _ _ :: _) _ _); walk_at "rel") | refine wg_dat ?_)
local macro_rules | `(tactic| walk_at "d") => `(tactic| first | ((with_reducible show WD _ [] _ _); refine wd_nil ?_) | refine wd_cons ?_)
local macro_rules | `(tactic| walk_at "p") => `(tactic| first | ((with_reducible show WPa _ none _ _); refine wp_none ?_) | refine wp_some ?_)
local macro_rules | `(tactic| walk_at "1") => `(tactic| first | ((with_reducible show W1 _ (Stmt.If _ _ _ _) _ _); refine w1_if ?_) | ((with_reducible show W1 _ (Stmt.Return (some _) _) _ _); refine w1_ret ?_) | ((with_reducible show W1 _ (Stmt.Return none _) _ _); refine w1_retN ?_) | ((with_reducible show W1 _ (Stmt.Expr _ _) _ _); walk_at "app") | ((with_reducible show W1 _ (Stmt.Assign [Expr.Subscript _ _ _] _ _) _ _); walk_at "sto") | ((with_reducible show W1 _ (Stmt.Assign [Expr.Name _ _] _ _) _ _); walk_at "set"))
local macro_rules | `(tactic| walk_at "S") => `(tactic| first | ((with_reducible show WS _ [] _ _); refine ws_nil ?_) | refine ws_cons ?_)
local macro_rules | `(tactic| walk_at "lf") => `(tactic| first | refine ⟨_, rfl, ?_⟩ | refine ⟨fun _ => ?_, fun _ => ?_⟩)
local macro_rules | `(tactic| walk_at "cl") => `(tactic| dsimp only [PlusD, MinusD, TimesD, FdivD, ModD, PowD, CmpD, LenD, IxD, SliD, TruD, IntD, TupD, LisD, Max2D, Min2D, thenR, endR])
local macro_rules | `(tactic| walk_at "s") => `(tactic| first | ((with_reducible show WS _ _ _ _); walk_at "S") | ((with_reducible show W1 _ _ _ _); walk_at "1") | ((with_reducible show WE _ _ _ _); walk_at "e") | ((with_reducible show WO _ _ _ _); walk_at "o") | ((with_reducible show WT _ _ _ _); walk_at "t") | ((with_reducible show WW _ _ _ _); walk_at "w") | ((with_reducible show WG _ _ _ _); walk_at "g") | ((with_reducible show WD _ _ _ _); walk_at "d") | ((with_reducible show WPa _ _ _ _); walk_at "p") | ((with_reducible show List.length _ ≤ sizeLine ∧ _); refine ⟨Nat.le_trans (by simp : _ ≤ 100) (by decide), ?_⟩) | ((with_reducible show SeqAt.shaped _ = true ∧ _); refine ⟨by first | rfl | exact shaped_ints _ | assumption, ?_⟩) | ((with_reducible show (0 : Int) < _ ∧ _ < _ ∧ ∀ v : Int, _); refine ⟨by first | omega | decide, by first | exact lt8000 (by omega) | assumption, fun _ _ _ => ?_⟩) | ((with_reducible show (0 : Int) < _ ∧ _); refine ⟨by first | omega | decide, ?_⟩) | ((with_reducible show CPow _ _ ∧ _); refine ⟨⟨by decide, by decide, by decide⟩, ?_⟩) | ((with_reducible show thenR _ _ _ (Out.nx _)); show WS _ _ _ _) | walk_at "cl" | walk_at "lf")
local macro_rules | `(tactic| walk_at "q") => `(tactic| first | ((with_reducible show WE _ _ _ _); walk_at "e") | ((with_reducible show WO _ _ _ _); walk_at "o") | ((with_reducible show WT _ _ _ _); walk_at "t") | ((with_reducible show WW _ _ _ _); walk_at "w") | ((with_reducible show WG _ _ _ _); walk_at "g") | ((with_reducible show WD _ _ _ _); walk_at "d") | ((with_reducible show WPa _ _ _ _); walk_at "p") | ((with_reducible show List.length _ ≤ sizeLine ∧ _); refine ⟨Nat.le_trans (by simp : _ ≤ 100) (by decide), ?_⟩) | ((with_reducible show SeqAt.shaped _ = true ∧ _); refine ⟨by first | rfl | exact shaped_ints _ | assumption, ?_⟩) | ((with_reducible show (0 : Int) < _ ∧ _ < _ ∧ ∀ v : Int, _); refine ⟨by first | omega | decide, by first | exact lt8000 (by omega) | assumption, fun _ _ _ => ?_⟩) | ((with_reducible show (0 : Int) < _ ∧ _); refine ⟨by first | omega | decide, ?_⟩) | ((with_reducible show CPow _ _ ∧ _); refine ⟨⟨by decide, by decide, by decide⟩, ?_⟩) | walk_at "cl" | walk_at "lf")
theorem all_map_bool {xs : List PyData} {f : PyData → Bool} : (xs.map fun x => PyData.bool (f x)) = (xs.map f).map PyData.bool := by rw [List.map_map]; rfl
theorem all_runs {xs : List PyData} : (xs.map runB).all id = xs.all runB := by rw [List.all_map]; rfl
theorem headI_of {c n : Int} {d : PyData} (h : d = .list [.int c, .int n] ∨ d = .tuple [.int c, .int n]) : headI d = c := by rcases h with rfl | rfl <;> rfl
theorem cutD_tail (xs : List PyData) : cutD xs (some 1) none = xs.drop 1 := by
  unfold cutD
  have e : HT.sIx xs.length 0 (some 1) = min 1 xs.length := by
    unfold HT.sIx
    simp
  have e2 : HT.sIx xs.length xs.length none = xs.length := rfl
  rw [e, e2]
  by_cases h : xs = []
  · subst h; rfl
  · have : 0 < xs.length := List.length_pos_iff.mpr h
    rw [show min 1 xs.length = 1 by omega, List.take_of_length_le (by rw [List.length_drop]; omega)]
theorem diff_bools (xs : List PyData) : ((zipD xs (xs.drop 1)).map fun d => match d with | .tuple [a, b] => !(headI a == headI b) | _ => false).all id = diffB xs := by
  unfold zipD diffB
  rw [List.map_map, List.all_map]
  rfl
section
variable {P : Program} {w : World} {K : PySem.W.Frag} {mg : Str → Option Value} {base : Heap}
local macro_rules | `(tactic| walk_at "nm") => `(tactic| first | ((with_reducible show WE _ (Expr.Name "value" _) _ _); refine we_name 0 rfl (by walk_at "vis") rfl ?_) | ((with_reducible show WE _ (Expr.Name "run" _) _ _); refine we_name 1 rfl (by walk_at "vis") rfl ?_) | ((with_reducible show WE _ (Expr.Name "later" _) _ _); refine we_name 2 rfl (by walk_at "vis") rfl ?_))
local macro_rules | `(tactic| walk_at "no") => `(tactic| first | ((with_reducible show WO _ (Expr.Name "value" _) _ _); refine wo_own 0 rfl (by walk_at "vis") rfl ?_) | ((with_reducible show WO _ (Expr.Name "run" _) _ _); refine wo_own 1 rfl (by walk_at "vis") rfl ?_) | ((with_reducible show WO _ (Expr.Name "later" _) _ _); refine wo_own 2 rfl (by walk_at "vis") rfl ?_))
local macro_rules | `(tactic| walk_at "rel") => `(tactic| first | ((with_reducible show WG _ (Expr.Name "value" _ :: _) _ _); refine wg_rel 0 rfl (by walk_at "vis") rfl ?_) | ((with_reducible show WG _ (Expr.Name "run" _ :: _) _ _); refine wg_rel 1 rfl (by walk_at "vis") rfl ?_) | ((with_reducible show WG _ (Expr.Name "later" _ :: _) _ _); refine wg_rel 2 rfl (by walk_at "vis") rfl ?_))
local macro_rules | `(tactic| walk_at "set") => `(tactic| first | ((with_reducible show W1 _ (Stmt.Assign [Expr.Name "value" _] _ _) _ _); refine w1_set 0 ?_ rfl (by walk_at "loc") (Or.inl rfl)) | ((with_reducible show W1 _ (Stmt.Assign [Expr.Name "run" _] _ _) _ _); refine w1_set 1 ?_ rfl (by walk_at "loc") (Or.inl rfl)) | ((with_reducible show W1 _ (Stmt.Assign [Expr.Name "later" _] _ _) _ _); refine w1_set 2 ?_ rfl (by walk_at "loc") (Or.inl rfl)))
local macro_rules | `(tactic| walk_at "app") => `(tactic| first | ((with_reducible show W1 _ (Stmt.Expr (Expr.Call (Expr.Attribute (Expr.Name "value" _) _ _) _ _ _) _) _ _); refine w1_append 0 rfl ?_ rfl (by walk_at "vis")) | ((with_reducible show W1 _ (Stmt.Expr (Expr.Call (Expr.Attribute (Expr.Name "run" _) _ _) _ _ _) _) _ _); refine w1_append 1 rfl ?_ rfl (by walk_at "vis")) | ((with_reducible show W1 _ (Stmt.Expr (Expr.Call (Expr.Attribute (Expr.Name "later" _) _ _) _ _ _) _) _ _); refine w1_append 2 rfl ?_ rfl (by walk_at "vis")))
local macro_rules | `(tactic| walk_at "sto") => `(tactic| first | ((with_reducible show W1 _ (Stmt.Assign [Expr.Subscript (Expr.Name "value" _) _ _] _ _) _ _); refine w1_store 0 rfl ?_ rfl (by walk_at "vis")) | ((with_reducible show W1 _ (Stmt.Assign [Expr.Subscript (Expr.Name "run" _) _ _] _ _) _ _); refine w1_store 1 rfl ?_ rfl (by walk_at "vis")) | ((with_reducible show W1 _ (Stmt.Assign [Expr.Subscript (Expr.Name "later" _) _ _] _ _) _ _); refine w1_store 2 rfl ?_ rfl (by walk_at "vis")))
local macro_rules | `(tactic| walk_at "tg") => `(tactic| first | ((with_reducible show WTg _ (Expr.Name "value" _) _ _ _ _); refine wtg_name 0 rfl (by walk_at "loc") (by walk_at "loc") ?_) | ((with_reducible show WTg _ (Expr.Name "run" _) _ _ _ _); refine wtg_name 1 rfl (by walk_at "loc") (by walk_at "loc") ?_) | ((with_reducible show WTg _ (Expr.Name "later" _) _ _ _ _); refine wtg_name 2 rfl (by walk_at "loc") (by walk_at "loc") ?_))

local macro_rules | `(tactic| walk_at "fn") => `(tactic| first | ((with_reducible show WE _ (Expr.Call (Expr.Name "is_list_up_to" _) _ _ _) _ _); refine we_call (by with_reducible assumption) (by dsimp only; omega) ?_) | ((with_reducible show WE _ (Expr.Call (Expr.Name "is_run" _) _ _ _) _ _); refine we_call (by with_reducible assumption) (by dsimp only; omega) ?_))

local macro_rules | `(tactic| walk_at "nm") => `(tactic| ((with_reducible show WE _ (Expr.Name "MOST_ITEMS" _) _ _); refine we_globI (by with_reducible assumption) ?_))

theorem ws_rec {k : Nat} (B : Bl mg) (mz : mg "zip" = none) (hk : 2 ≤ k) (hIlu : Has P w K mg base "is_list_up_to" 1 wIlu) (hRun : Has P w K mg base "is_run" 2 wRun) {t1 : Tok} (g1 : mg "MOST_ITEMS" = some (.int 400 t1)) (as : List SV) (Q : PyData → Prop) (h : wRec as Q) :
    WS ⟨P, w, K, mg, base, ["value", "run", "later"], defScope sRec, fun _ => true, k⟩ (defBody sRec) (startR ["value", "run", "later"] as) (endR Q) := by
  obtain ⟨mi, mn, mb, mls, mt, ml, ma, mr, mre, mmi, mma, ms⟩ := B
  obtain ⟨d, rfl, q⟩ := h
  rcases seq_split d with ⟨xs, rfl⟩ | ⟨xs, rfl⟩ | ⟨h1, hi, e⟩
  · repeat walk_at "s"
    refine ⟨_, 400, rfl, ?_⟩
    repeat walk_at "s"
    · -- not too long
      rename_i h1
      have h1 : seqLe (.list xs) 400 = true := by
        cases z : seqLe (.list xs) 400 with
        | true => rfl
        | false => rw [z] at h1; cases h1
      have hz : xs.length ≤ 1000000 := by have := of_decide_eq_true h1; omega
      refine we_lcM [("run", 1)] [1] (fun x => .bool (runB x)) (wi_list ?_)
      walk_at "s"
      refine ⟨xs, rfl, hz, fun x hx => ?_, xs.map runB, congrArg PyData.list all_map_bool, ?_⟩
      · walk_at "tg"
        repeat walk_at "s"
        all_goals exact ⟨x, rfl, rfl⟩
      rw [all_runs]
      have e1 : recB (.list xs) = (xs.all runB && diffB xs) := by show (_ && _) = _; rw [h1, Bool.true_and]; rfl
      rw [e1] at q
      refine ⟨_, rfl, fun h2 => ?_, fun h2 => ?_⟩
      · have h2 : xs.all runB = false := by
          cases z : xs.all runB with
          | false => rfl
          | true => rw [z] at h2; cases h2
        rw [h2, Bool.false_and] at q
        repeat walk_at "s"
        exact q
      · have h2 : xs.all runB = true := by
          cases z : xs.all runB with
          | true => rfl
          | false => rw [z] at h2; cases h2
        rw [h2, Bool.true_and] at q
        repeat walk_at "s"
        refine we_lcM [("run", 1), ("later", 2)] [1, 2] (fun d => .bool (match d with | .tuple [a, b] => !(headI a == headI b) | _ => false)) (wi_zip ?_ mz)
        repeat walk_at "s"
        refine ⟨xs, xs.drop 1, .inl ?_, ?_⟩
        · rw [cutD_tail]
        refine ⟨by rw [zipD_len]; omega, fun d hd => ?_, (zipD xs (xs.drop 1)).map (fun d => match d with | .tuple [a, b] => !(headI a == headI b) | _ => false), congrArg PyData.list (by rw [List.map_map]; rfl), ?_⟩
        · obtain ⟨p, hp, rfl⟩ := List.mem_map.mp hd
          obtain ⟨a, b⟩ := p
          have ha := List.all_eq_true.mp h2 a (List.of_mem_zip hp).1
          have hb := List.all_eq_true.mp h2 b (List.mem_of_mem_drop (List.of_mem_zip hp).2)
          obtain ⟨c1, n1, _, ea, _⟩ := runB_two ha
          obtain ⟨c2, n2, _, eb, _⟩ := runB_two hb
          have xa := headI_of ea
          have xb := headI_of eb
          refine wtg_pair 1 2 rfl (by walk_at "loc") (by walk_at "loc") rfl (by walk_at "loc") (by walk_at "loc") ?_
          show WE _ _ _ _
          rw [show (fun y => y = PyData.bool (match PyData.tuple [a, b] with | .tuple [a, b] => !(headI a == headI b) | _ => false)) = fun y => y = PyData.bool (!(c1 == c2)) from by funext y; show (y = PyData.bool (!(headI a == headI b))) = _; rw [xa, xb]]
          rcases ea with rfl | rfl <;> rcases eb with rfl | rfl
          all_goals (repeat walk_at "s")
          all_goals rfl
        · rw [diff_bools]
          exact q
    · -- too long
      rename_i h1
      have h1 : seqLe (.list xs) 400 = false := by
        cases z : seqLe (.list xs) 400 with
        | false => rfl
        | true => rw [z] at h1; cases h1
      have e1 : recB (.list xs) = false := by show (_ && _) = _; rw [h1, Bool.false_and]
      rw [e1] at q
      refine ⟨fun _ => ?_, fun z => (by cases z)⟩
      repeat walk_at "s"
      exact q
  · repeat walk_at "s"
    refine ⟨_, 400, rfl, ?_⟩
    repeat walk_at "s"
    · -- not too long
      rename_i h1
      have h1 : seqLe (.tuple xs) 400 = true := by
        cases z : seqLe (.tuple xs) 400 with
        | true => rfl
        | false => rw [z] at h1; cases h1
      have hz : xs.length ≤ 1000000 := by have := of_decide_eq_true h1; omega
      refine we_lcM [("run", 1)] [1] (fun x => .bool (runB x)) (wi_tup ?_)
      walk_at "s"
      refine ⟨xs, rfl, hz, fun x hx => ?_, xs.map runB, congrArg PyData.list all_map_bool, ?_⟩
      · walk_at "tg"
        repeat walk_at "s"
        all_goals exact ⟨x, rfl, rfl⟩
      rw [all_runs]
      have e1 : recB (.tuple xs) = (xs.all runB && diffB xs) := by show (_ && _) = _; rw [h1, Bool.true_and]; rfl
      rw [e1] at q
      refine ⟨_, rfl, fun h2 => ?_, fun h2 => ?_⟩
      · have h2 : xs.all runB = false := by
          cases z : xs.all runB with
          | false => rfl
          | true => rw [z] at h2; cases h2
        rw [h2, Bool.false_and] at q
        repeat walk_at "s"
        exact q
      · have h2 : xs.all runB = true := by
          cases z : xs.all runB with
          | true => rfl
          | false => rw [z] at h2; cases h2
        rw [h2, Bool.true_and] at q
        repeat walk_at "s"
        refine we_lcM [("run", 1), ("later", 2)] [1, 2] (fun d => .bool (match d with | .tuple [a, b] => !(headI a == headI b) | _ => false)) (wi_zip ?_ mz)
        repeat walk_at "s"
        refine ⟨xs, xs.drop 1, .inr ?_, ?_⟩
        · rw [cutD_tail]
        refine ⟨by rw [zipD_len]; omega, fun d hd => ?_, (zipD xs (xs.drop 1)).map (fun d => match d with | .tuple [a, b] => !(headI a == headI b) | _ => false), congrArg PyData.list (by rw [List.map_map]; rfl), ?_⟩
        · obtain ⟨p, hp, rfl⟩ := List.mem_map.mp hd
          obtain ⟨a, b⟩ := p
          have ha := List.all_eq_true.mp h2 a (List.of_mem_zip hp).1
          have hb := List.all_eq_true.mp h2 b (List.mem_of_mem_drop (List.of_mem_zip hp).2)
          obtain ⟨c1, n1, _, ea, _⟩ := runB_two ha
          obtain ⟨c2, n2, _, eb, _⟩ := runB_two hb
          have xa := headI_of ea
          have xb := headI_of eb
          refine wtg_pair 1 2 rfl (by walk_at "loc") (by walk_at "loc") rfl (by walk_at "loc") (by walk_at "loc") ?_
          show WE _ _ _ _
          rw [show (fun y => y = PyData.bool (match PyData.tuple [a, b] with | .tuple [a, b] => !(headI a == headI b) | _ => false)) = fun y => y = PyData.bool (!(c1 == c2)) from by funext y; show (y = PyData.bool (!(headI a == headI b))) = _; rw [xa, xb]]
          rcases ea with rfl | rfl <;> rcases eb with rfl | rfl
          all_goals (repeat walk_at "s")
          all_goals rfl
        · rw [diff_bools]
          exact q
    · -- too long
      rename_i h1
      have h1 : seqLe (.tuple xs) 400 = false := by
        cases z : seqLe (.tuple xs) 400 with
        | false => rfl
        | true => rw [z] at h1; cases h1
      have e1 : recB (.tuple xs) = false := by show (_ && _) = _; rw [h1, Bool.false_and]
      rw [e1] at q
      refine ⟨fun _ => ?_, fun z => (by cases z)⟩
      repeat walk_at "s"
      exact q
  · have e1 : recB d = false := by show (_ && _) = _; rw [h1, Bool.false_and]
    rw [e1] at q
    repeat walk_at "s"
    refine ⟨_, 400, rfl, ?_⟩
    rw [h1]
    repeat walk_at "s"
    · rename_i z
      cases z
    · refine ⟨fun _ => ?_, fun z => (by cases z)⟩
      repeat walk_at "s"
      exact q
end


end Tee

namespace Tee
open PySem PySem.Spec PyProof.Rows L2
local macro_rules | `(tactic| walk_at "vis") => `(tactic| first | exact Or.inl rfl | exact Or.inr (Or.inl rfl) | exact Or.inr (Or.inr rfl))
local macro_rules | `(tactic| walk_at "loc") => `(tactic| first | exact Or.inl rfl | exact Or.inr rfl)
local macro_rules | `(tactic| walk_at "e") => `(tactic| first | ((with_reducible show WE _ (Expr.Call (Expr.Name "len" _) [Expr.Name "script" _] _ _) _ _); refine we_lenScr 0 rfl (by walk_at "vis") rfl ?_ (by with_reducible assumption)) | ((with_reducible show WE _ (Expr.Constant (Const.int _) _ _) _ _); refine we_int ?_) | ((with_reducible show WE _ (Expr.Constant (Const.str _) _ _) _ _); refine we_str ?_) | ((with_reducible show WE _ (Expr.Constant (Const.bool true) _ _) _ _); refine we_true ?_) | ((with_reducible show WE _ (Expr.Constant (Const.bool false) _ _) _ _); refine we_false ?_) | ((with_reducible show WE _ (Expr.Constant Const.none _ _) _ _); refine we_none ?_) | ((with_reducible show WE _ (Expr.BinOp _ Operator.Add _ _) _ _); refine we_plus ?_) | ((with_reducible show WE _ (Expr.BinOp _ Operator.Sub _ _) _ _); refine we_minus ?_) | ((with_reducible show WE _ (Expr.BinOp _ Operator.Mult _ _) _ _); refine we_times ?_) | ((with_reducible show WE _ (Expr.BinOp _ Operator.FloorDiv _ _) _ _); refine we_fdiv ?_) | ((with_reducible show WE _ (Expr.BinOp _ Operator.Mod _ _) _ _); refine we_mod ?_) | ((with_reducible show WE _ (Expr.BinOp _ Operator.Pow _ _) _ _); refine we_pow ?_) | ((with_reducible show WE _ (Expr.UnaryOp UnaryOp.USub _ _) _ _); refine we_neg ?_) | ((with_reducible show WE _ (Expr.UnaryOp UnaryOp.Not _ _) _ _); refine we_not ?_) | ((with_reducible show WE _ (Expr.Compare _ [_] [_] _) _ _); refine we_cmp ?_) | ((with_reducible show WE _ (Expr.Compare _ [_, _] [_, _] _) _ _); refine we_chain ?_) | ((with_reducible show WE _ (Expr.BoolOp BoolOp.And (_ :: _ :: _) _) _ _); refine we_and ?_) | ((with_reducible show WE _ (Expr.BoolOp BoolOp.Or (_ :: _ :: _) _) _ _); refine we_or ?_) | ((with_reducible show WE _ (Expr.BoolOp _ [_] _) _ _); refine we_one ?_) | ((with_reducible show WE _ (Expr.IfExp _ _ _ _) _ _); refine we_ifExp ?_) | ((with_reducible show WE _ (Expr.Subscript _ (Expr.Slice _ _ _ _) _) _ _); refine we_slice ?_) | ((with_reducible show WE _ (Expr.Subscript _ _ _) _ _); refine we_ix ?_) | ((with_reducible show WE _ (Expr.List _ _) _ _); refine we_list ?_) | ((with_reducible show WE _ (Expr.Tuple _ _ _) _ _); refine we_tuple ?_) | ((with_reducible show WE _ (Expr.Dict [] [] _) _ _); refine we_dict0 ?_) | ((with_reducible show WE _ (Expr.Dict [_] [_] _) _ _); refine we_dict1 ?_) | ((with_reducible show WE _ (Expr.Call (Expr.Name "len" _) [_] _ _) _ _); refine we_len ?_ (by with_reducible assumption)) | ((with_reducible show WE _ (Expr.Call (Expr.Name "sum" _) [_] _ _) _ _); refine we_sum ?_ (by with_reducible assumption)) | ((with_reducible show WE _ (Expr.Call (Expr.Name "max" _) [_] _ _) _ _); refine we_max ?_ (by with_reducible assumption)) | ((with_reducible show WE _ (Expr.Call (Expr.Name "min" _) [_] _ _) _ _); refine we_min ?_ (by with_reducible assumption)) | ((with_reducible show WE _ (Expr.Call (Expr.Name "max" _) [_, _] _ _) _ _); refine we_max2 ?_ (by with_reducible assumption)) | ((with_reducible show WE _ (Expr.Call (Expr.Name "min" _) [_, _] _ _) _ _); refine we_min2 ?_ (by with_reducible assumption)) | ((with_reducible show WE _ (Expr.Call (Expr.Name "int" _) [_] _ _) _ _); refine we_toInt ?_ (by with_reducible assumption)) | ((with_reducible show WE _ (Expr.Call (Expr.Name "tuple" _) [_] _ _) _ _); refine we_toTup ?_ (by with_reducible assumption)) | ((with_reducible show WE _ (Expr.Call (Expr.Name "list" _) [_] _ _) _ _); refine we_toLis ?_ (by with_reducible assumption)) | ((with_reducible show WE _ (Expr.Call (Expr.Name "all" _) [_] _ _) _ _); refine we_all ?_ (by with_reducible assumption)) | ((with_reducible show WE _ (Expr.Call (Expr.Name "any" _) [_] _ _) _ _); refine we_any ?_ (by with_reducible assumption)) | ((with_reducible show WE _ (Expr.Call (Expr.Name "repr" _) [_] _ _) _ _); refine we_repr ?_ (by with_reducible assumption)) | ((with_reducible show WE _ (Expr.Call (Expr.Name "isinstance" _) [_, Expr.Name "int" _] _ _) _ _); refine we_isi (n := "int") ?_ PyProof.Rows.boot_int (by with_reducible assumption) (by with_reducible assumption)) | ((with_reducible show WE _ (Expr.Call (Expr.Name "isinstance" _) [_, Expr.Name "bool" _] _ _) _ _); refine we_isi (n := "bool") ?_ PyProof.Rows.boot_bool (by with_reducible assumption) (by with_reducible assumption)) | ((with_reducible show WE _ (Expr.Call (Expr.Name "isinstance" _) [_, Expr.Tuple _ _ _] _ _) _ _); refine we_isi2 (n := "list") (n' := "tuple") ?_ PyProof.Rows.boot_list PyProof.Rows.boot_tuple (by with_reducible assumption) (by with_reducible assumption) (by with_reducible assumption)) | ((with_reducible show WE _ (Expr.Name _ _) _ _); walk_at "nm") | ((with_reducible show WE _ (Expr.Call (Expr.Name _ _) _ _ _) _ _); walk_at "fn"))
local macro_rules | `(tactic| walk_at "o") => `(tactic| first | ((with_reducible show WO _ (Expr.Name _ _) _ _); walk_at "no") | refine WO.of ?_)
local macro_rules | `(tactic| walk_at "t") => `(tactic| first | ((with_reducible show WT _ (Expr.Compare _ [_] [_] _) _ _); refine wt_cmp ?_) | ((with_reducible show WT _ (Expr.UnaryOp UnaryOp.Not _ _) _ _); refine wt_not ?_) | ((with_reducible show WT _ (Expr.BoolOp _ _ _) _ _); refine wt_bool ?_) | refine wt_val ?_)
local macro_rules | `(tactic| walk_at "w") => `(tactic| first | ((with_reducible show WW _ (Expr.BoolOp BoolOp.And (_ :: _ :: _) _) _ _); refine ww_and ?_) | ((with_reducible show WW _ (Expr.BoolOp BoolOp.Or (_ :: _ :: _) _) _ _); refine ww_or ?_) | ((with_reducible show WW _ (Expr.BoolOp BoolOp.And _ _) _ _); refine ww_and1 ?_) | ((with_reducible show WW _ (Expr.BoolOp BoolOp.Or _ _) _ _); refine ww_or1 ?_))
local macro_rules | `(tactic| walk_at "g") => `(tactic| first | ((with_reducible show WG _ [] _ _); refine wg_nil ?_) | ((with_reducible show WG _ (Expr.Name _ _ :: _) _ _); walk_at "rel") | refine wg_dat ?_)
local macro_rules | `(tactic| walk_at "d") => `(tactic| first | ((with_reducible show WD _ [] _ _); refine wd_nil ?_) | refine wd_cons ?_)
local macro_rules | `(tactic| walk_at "p") => `(tactic| first | ((with_reducible show WPa _ none _ _); refine wp_none ?_) | refine wp_some ?_)
local macro_rules | `(tactic| walk_at "1") => `(tactic| first | ((with_reducible show W1 _ (Stmt.If _ _ _ _) _ _); refine w1_if ?_) | ((with_reducible show W1 _ (Stmt.Return (some _) _) _ _); refine w1_ret ?_) | ((with_reducible show W1 _ (Stmt.Return none _) _ _); refine w1_retN ?_) | ((with_reducible show W1 _ (Stmt.Expr _ _) _ _); walk_at "app") | ((with_reducible show W1 _ (Stmt.Assign [Expr.Subscript _ _ _] _ _) _ _); walk_at "sto") | ((with_reducible show W1 _ (Stmt.Assign [Expr.Name _ _] _ _) _ _); walk_at "set"))
local macro_rules | `(tactic| walk_at "S") => `(tactic| first | ((with_reducible show WS _ [] _ _); refine ws_nil ?_) | refine ws_cons ?_)
local macro_rules | `(tactic| walk_at "lf") => `(tactic| first | refine ⟨_, rfl, ?_⟩ | refine ⟨fun _ => ?_, fun _ => ?_⟩)
local macro_rules | `(tactic| walk_at "cl") => `(tactic| dsimp only [PlusD, MinusD, TimesD, FdivD, ModD, PowD, CmpD, LenD, IxD, SliD, TruD, IntD, TupD, LisD, Max2D, Min2D, thenR, endR])
local macro_rules | `(tactic| walk_at "s") => `(tactic| first | ((with_reducible show WS _ _ _ _); walk_at "S") | ((with_reducible show W1 _ _ _ _); walk_at "1") | ((with_reducible show WE _ _ _ _); walk_at "e") | ((with_reducible show WO _ _ _ _); walk_at "o") | ((with_reducible show WT _ _ _ _); walk_at "t") | ((with_reducible show WW _ _ _ _); walk_at "w") | ((with_reducible show WG _ _ _ _); walk_at "g") | ((with_reducible show WD _ _ _ _); walk_at "d") | ((with_reducible show WPa _ _ _ _); walk_at "p") | ((with_reducible show List.length _ ≤ sizeLine ∧ _); refine ⟨Nat.le_trans (by simp : _ ≤ 100) (by decide), ?_⟩) | ((with_reducible show SeqAt.shaped _ = true ∧ _); refine ⟨by first | rfl | exact shaped_ints _ | assumption, ?_⟩) | ((with_reducible show (0 : Int) < _ ∧ _ < _ ∧ ∀ v : Int, _); refine ⟨by first | omega | decide, by first | exact lt8000 (by omega) | assumption, fun _ _ _ => ?_⟩) | ((with_reducible show (0 : Int) < _ ∧ _); refine ⟨by first | omega | decide, ?_⟩) | ((with_reducible show CPow _ _ ∧ _); refine ⟨⟨by decide, by decide, by decide⟩, ?_⟩) | ((with_reducible show thenR _ _ _ (Out.nx _)); show WS _ _ _ _) | walk_at "cl" | walk_at "lf")
local macro_rules | `(tactic| walk_at "q") => `(tactic| first | ((with_reducible show WE _ _ _ _); walk_at "e") | ((with_reducible show WO _ _ _ _); walk_at "o") | ((with_reducible show WT _ _ _ _); walk_at "t") | ((with_reducible show WW _ _ _ _); walk_at "w") | ((with_reducible show WG _ _ _ _); walk_at "g") | ((with_reducible show WD _ _ _ _); walk_at "d") | ((with_reducible show WPa _ _ _ _); walk_at "p") | ((with_reducible show List.length _ ≤ sizeLine ∧ _); refine ⟨Nat.le_trans (by simp : _ ≤ 100) (by decide), ?_⟩) | ((with_reducible show SeqAt.shaped _ = true ∧ _); refine ⟨by first | rfl | exact shaped_ints _ | assumption, ?_⟩) | ((with_reducible show (0 : Int) < _ ∧ _ < _ ∧ ∀ v : Int, _); refine ⟨by first | omega | decide, by first | exact lt8000 (by omega) | assumption, fun _ _ _ => ?_⟩) | ((with_reducible show (0 : Int) < _ ∧ _); refine ⟨by first | omega | decide, ?_⟩) | ((with_reducible show CPow _ _ ∧ _); refine ⟨⟨by decide, by decide, by decide⟩, ?_⟩) | walk_at "cl" | walk_at "lf")
def wMrg : WpO := fun as Q => ∃ (ds : List PyData) (rs : List (Int × Int)), as = [.dat (.list ds)] ∧ RunsL ds rs ∧ rs.length ≤ 100000 ∧ Q ((mergeL rs).map runD)
def wRby : WpO := fun as Q => ∃ (d : PyData) (cs : List Int), as = [.dat d] ∧ (d = .list (cs.map .int) ∨ d = .tuple (cs.map .int)) ∧ cs.length ≤ 400 ∧ (∀ c ∈ cs, -1 ≤ c ∧ c ≤ 1) ∧ Q ((runsOf cs).map runD)
section
variable {P : Program} {w : World} {K : PySem.W.Frag} {mg : Str → Option Value} {base : Heap}
local macro_rules | `(tactic| walk_at "nm") => `(tactic| first | ((with_reducible show WE _ (Expr.Name "runs" _) _ _); refine we_name 0 rfl (by walk_at "vis") rfl ?_) | ((with_reducible show WE _ (Expr.Name "record" _) _ _); refine we_name 1 rfl (by walk_at "vis") rfl ?_) | ((with_reducible show WE _ (Expr.Name "change" _) _ _); refine we_name 2 rfl (by walk_at "vis") rfl ?_) | ((with_reducible show WE _ (Expr.Name "count" _) _ _); refine we_name 3 rfl (by walk_at "vis") rfl ?_))
local macro_rules | `(tactic| walk_at "no") => `(tactic| first | ((with_reducible show WO _ (Expr.Name "runs" _) _ _); refine wo_own 0 rfl (by walk_at "vis") rfl ?_) | ((with_reducible show WO _ (Expr.Name "record" _) _ _); refine wo_own 1 rfl (by walk_at "vis") rfl ?_) | ((with_reducible show WO _ (Expr.Name "change" _) _ _); refine wo_own 2 rfl (by walk_at "vis") rfl ?_) | ((with_reducible show WO _ (Expr.Name "count" _) _ _); refine wo_own 3 rfl (by walk_at "vis") rfl ?_))
local macro_rules | `(tactic| walk_at "rel") => `(tactic| first | ((with_reducible show WG _ (Expr.Name "runs" _ :: _) _ _); refine wg_rel 0 rfl (by walk_at "vis") rfl ?_) | ((with_reducible show WG _ (Expr.Name "record" _ :: _) _ _); refine wg_rel 1 rfl (by walk_at "vis") rfl ?_) | ((with_reducible show WG _ (Expr.Name "change" _ :: _) _ _); refine wg_rel 2 rfl (by walk_at "vis") rfl ?_) | ((with_reducible show WG _ (Expr.Name "count" _ :: _) _ _); refine wg_rel 3 rfl (by walk_at "vis") rfl ?_))
local macro_rules | `(tactic| walk_at "set") => `(tactic| first | ((with_reducible show W1 _ (Stmt.Assign [Expr.Name "runs" _] _ _) _ _); refine w1_set 0 ?_ rfl (by walk_at "loc") (Or.inl rfl)) | ((with_reducible show W1 _ (Stmt.Assign [Expr.Name "record" _] _ _) _ _); refine w1_set 1 ?_ rfl (by walk_at "loc") (Or.inl rfl)) | ((with_reducible show W1 _ (Stmt.Assign [Expr.Name "change" _] _ _) _ _); refine w1_set 2 ?_ rfl (by walk_at "loc") (Or.inl rfl)) | ((with_reducible show W1 _ (Stmt.Assign [Expr.Name "count" _] _ _) _ _); refine w1_set 3 ?_ rfl (by walk_at "loc") (Or.inl rfl)))
local macro_rules | `(tactic| walk_at "app") => `(tactic| first | ((with_reducible show W1 _ (Stmt.Expr (Expr.Call (Expr.Attribute (Expr.Name "runs" _) _ _) _ _ _) _) _ _); refine w1_append 0 rfl ?_ rfl (by walk_at "vis")) | ((with_reducible show W1 _ (Stmt.Expr (Expr.Call (Expr.Attribute (Expr.Name "record" _) _ _) _ _ _) _) _ _); refine w1_append 1 rfl ?_ rfl (by walk_at "vis")) | ((with_reducible show W1 _ (Stmt.Expr (Expr.Call (Expr.Attribute (Expr.Name "change" _) _ _) _ _ _) _) _ _); refine w1_append 2 rfl ?_ rfl (by walk_at "vis")) | ((with_reducible show W1 _ (Stmt.Expr (Expr.Call (Expr.Attribute (Expr.Name "count" _) _ _) _ _ _) _) _ _); refine w1_append 3 rfl ?_ rfl (by walk_at "vis")))
local macro_rules | `(tactic| walk_at "sto") => `(tactic| first | ((with_reducible show W1 _ (Stmt.Assign [Expr.Subscript (Expr.Name "runs" _) _ _] _ _) _ _); refine w1_store 0 rfl ?_ rfl (by walk_at "vis")) | ((with_reducible show W1 _ (Stmt.Assign [Expr.Subscript (Expr.Name "record" _) _ _] _ _) _ _); refine w1_store 1 rfl ?_ rfl (by walk_at "vis")) | ((with_reducible show W1 _ (Stmt.Assign [Expr.Subscript (Expr.Name "change" _) _ _] _ _) _ _); refine w1_store 2 rfl ?_ rfl (by walk_at "vis")) | ((with_reducible show W1 _ (Stmt.Assign [Expr.Subscript (Expr.Name "count" _) _ _] _ _) _ _); refine w1_store 3 rfl ?_ rfl (by walk_at "vis")))
local macro_rules | `(tactic| walk_at "tg") => `(tactic| first | ((with_reducible show WTg _ (Expr.Name "runs" _) _ _ _ _); refine wtg_name 0 rfl (by walk_at "loc") (by walk_at "loc") ?_) | ((with_reducible show WTg _ (Expr.Name "record" _) _ _ _ _); refine wtg_name 1 rfl (by walk_at "loc") (by walk_at "loc") ?_) | ((with_reducible show WTg _ (Expr.Name "change" _) _ _ _ _); refine wtg_name 2 rfl (by walk_at "loc") (by walk_at "loc") ?_) | ((with_reducible show WTg _ (Expr.Name "count" _) _ _ _ _); refine wtg_name 3 rfl (by walk_at "loc") (by walk_at "loc") ?_))

theorem ws_mrg {k : Nat} (as : List SV) (Q : List PyData → Prop) (h : wMrg as Q) :
    WS ⟨P, w, K, mg, base, ["runs", "record", "change", "count"], defScope sMerged, fun _ => true, k⟩ (defBody sMerged) (startR ["runs", "record", "change", "count"] as) (endO Q) := by
  obtain ⟨ds, rs, rfl, hr, hl, q⟩ := h
  walk_at "S"
  refine w1_setO 1 ?_ rfl (by walk_at "loc") (Or.inl rfl)
  refine wf_list (wd_nil ⟨Nat.zero_le _, ?_⟩)
  show WS _ _ _ _
  walk_at "S"
  refine w1_for [2, 3] (wi_list ?_)
  walk_at "q"
  refine ⟨ds, rfl, fun i ρ' => ∃ t2 t3 : Option SV, ρ' = [some (.dat (.list ds)), some (.own ((mergeL (rs.take i)).map runD)), t2, t3],
    ⟨none, none, rfl⟩, fun i d ρ' hd hJ => ?_, fun ρ' hJ => ?_⟩
  · obtain ⟨t2, t3, rfl⟩ := hJ
    obtain ⟨⟨c, n⟩, hp, hd2⟩ := hr.2 i d hd
    have hsz : (mergeL (rs.take i)).length ≤ 100000 := by
      have := mergeL_len (rs.take i)
      rw [List.length_take] at this
      omega
    have hnx : mergeL (rs.take (i + 1)) = addRun (mergeL (rs.take i)) c n := by rw [take_snoc hp, mergeL_snoc]
    obtain ⟨acc, hacc⟩ : ∃ acc, acc = mergeL (rs.take i) := ⟨_, rfl⟩
    rw [← hacc] at hsz hnx ⊢
    refine wtg_pairI 2 3 hd2 rfl (by walk_at "loc") (Or.inl rfl) rfl (by walk_at "loc") (Or.inl rfl) ?_
    have fin : ∀ ys : List (Int × Int), addRun acc c n = ys → ∃ u2 u3 : Option SV, [some (.dat (.list ds)), some (.own (ys.map runD)), some (.dat (.int c)), some (.dat (.int n))] = [some (.dat (.list ds)), some (.own ((mergeL (rs.take (i + 1))).map runD)), u2, u3] := fun ys e => ⟨_, _, by rw [hnx, e]⟩
    show WS _ _ _ _
    walk_at "S"
    refine w1_if (wt_bool (ww_and (wt_truth ?_)))
    rcases snoc_cases acc with rfl | ⟨t, ⟨c', n'⟩, rfl⟩
    · walk_at "no"
      walk_at "cl"
      refine ⟨fun z => (by cases z), fun _ => ⟨fun z => (by cases z), fun _ => ?_⟩⟩
      walk_at "S"
      walk_at "1"
      repeat walk_at "q"
      exact ⟨by decide, ws_nil (ws_nil (fin _ (addRun_nil c n)))⟩
    · walk_at "no"
      walk_at "cl"
      have hlt : ((t ++ [(c', n')]).map runD)[t.length]? = some (runD (c', n')) := by simp
      have hln : ((t ++ [(c', n')]).map runD).length = t.length + 1 := by simp
      have hat : atI ((t ++ [(c', n')]).map runD) (-1) = some (runD (c', n')) := by
        unfold atI ixN
        rw [hln, if_neg (by decide), if_pos (by omega)]
        show ((t ++ [(c', n')]).map runD)[(-1 + ((t.length + 1 : Nat) : Int)).toNat]? = _
        rw [show (-1 + ((t.length + 1 : Nat) : Int)).toNat = t.length by omega]
        exact hlt
      have hix : ixN ((t ++ [(c', n')]).map runD).length (-1) = some t.length := by
        unfold ixN
        rw [hln, if_neg (by decide), if_pos (by omega)]
        congr 1
        omega
      have hset : ((t ++ [(c', n')]).map runD).set t.length (.tuple [.int c, .int (n' + n)]) = (t ++ [(c, n' + n)]).map runD := by
        rw [List.map_append, List.map_append, List.set_append]
        simp [runD]
      refine ⟨fun _ => ?_, fun z => absurd z (by simp)⟩
      refine ww_and1 (wt_cmp ?_)
      repeat walk_at "q"
      refine ⟨_, hat, ?_⟩
      repeat walk_at "q"
      · rename_i z
        have e : c' = c := by
          have z : (c' == c) = true := z
          exact eq_of_beq z
        subst e
        walk_at "S"
        walk_at "1"
        repeat walk_at "q"
        refine ⟨_, hat, ?_⟩
        repeat walk_at "q"
        refine ⟨-1, t.length, rfl, hix, ?_⟩
        rw [hset]
        exact ws_nil (ws_nil (fin _ (addRun_same t c' n' n)))
      · rename_i z
        have e : c' ≠ c := fun e => by
          have z : (c' == c) = false := z
          rw [e, beq_self_eq_true] at z
          cases z
        walk_at "S"
        walk_at "1"
        repeat walk_at "q"
        refine ⟨Nat.lt_of_le_of_lt (show _ ≤ 100000 by rw [List.length_map]; exact hsz) (by decide), ws_nil (ws_nil ?_)⟩
        have := fin _ (addRun_other t n' n e)
        rw [List.map_append] at this
        exact this
  · obtain ⟨t2, t3, rfl⟩ := hJ
    rw [hr.1, List.take_length]
    show WS _ _ _ _
    walk_at "S"
    exact w1_retO 1 rfl q rfl (by walk_at "vis")
end
section
variable {P : Program} {w : World} {K : PySem.W.Frag} {mg : Str → Option Value} {base : Heap}
local macro_rules | `(tactic| walk_at "nm") => `(tactic| first | ((with_reducible show WE _ (Expr.Name "changes" _) _ _); refine we_name 0 rfl (by walk_at "vis") rfl ?_) | ((with_reducible show WE _ (Expr.Name "change" _) _ _); refine we_name 1 rfl (by walk_at "vis") rfl ?_))
local macro_rules | `(tactic| walk_at "no") => `(tactic| first | ((with_reducible show WO _ (Expr.Name "changes" _) _ _); refine wo_own 0 rfl (by walk_at "vis") rfl ?_) | ((with_reducible show WO _ (Expr.Name "change" _) _ _); refine wo_own 1 rfl (by walk_at "vis") rfl ?_))
local macro_rules | `(tactic| walk_at "rel") => `(tactic| first | ((with_reducible show WG _ (Expr.Name "changes" _ :: _) _ _); refine wg_rel 0 rfl (by walk_at "vis") rfl ?_) | ((with_reducible show WG _ (Expr.Name "change" _ :: _) _ _); refine wg_rel 1 rfl (by walk_at "vis") rfl ?_))
local macro_rules | `(tactic| walk_at "set") => `(tactic| first | ((with_reducible show W1 _ (Stmt.Assign [Expr.Name "changes" _] _ _) _ _); refine w1_set 0 ?_ rfl (by walk_at "loc") (Or.inl rfl)) | ((with_reducible show W1 _ (Stmt.Assign [Expr.Name "change" _] _ _) _ _); refine w1_set 1 ?_ rfl (by walk_at "loc") (Or.inl rfl)))
local macro_rules | `(tactic| walk_at "app") => `(tactic| first | ((with_reducible show W1 _ (Stmt.Expr (Expr.Call (Expr.Attribute (Expr.Name "changes" _) _ _) _ _ _) _) _ _); refine w1_append 0 rfl ?_ rfl (by walk_at "vis")) | ((with_reducible show W1 _ (Stmt.Expr (Expr.Call (Expr.Attribute (Expr.Name "change" _) _ _) _ _ _) _) _ _); refine w1_append 1 rfl ?_ rfl (by walk_at "vis")))
local macro_rules | `(tactic| walk_at "sto") => `(tactic| first | ((with_reducible show W1 _ (Stmt.Assign [Expr.Subscript (Expr.Name "changes" _) _ _] _ _) _ _); refine w1_store 0 rfl ?_ rfl (by walk_at "vis")) | ((with_reducible show W1 _ (Stmt.Assign [Expr.Subscript (Expr.Name "change" _) _ _] _ _) _ _); refine w1_store 1 rfl ?_ rfl (by walk_at "vis")))
local macro_rules | `(tactic| walk_at "tg") => `(tactic| first | ((with_reducible show WTg _ (Expr.Name "changes" _) _ _ _ _); refine wtg_name 0 rfl (by walk_at "loc") (by walk_at "loc") ?_) | ((with_reducible show WTg _ (Expr.Name "change" _) _ _ _ _); refine wtg_name 1 rfl (by walk_at "loc") (by walk_at "loc") ?_))

local macro_rules | `(tactic| walk_at "fn") => `(tactic| first | ((with_reducible show WE _ (Expr.Call (Expr.Name "are_integers_between" _) _ _ _) _ _); refine we_call (by with_reducible assumption) (by dsimp only; omega) ?_))

local macro_rules | `(tactic| walk_at "nm") => `(tactic| ((with_reducible show WE _ (Expr.Name "MOST_ITEMS" _) _ _); refine we_globI (by with_reducible assumption) ?_))

theorem ws_rby {k : Nat} (hk : 2 ≤ k) (hAib : Has P w K mg base "are_integers_between" 2 wAib) (hMrg : HasO P w K mg base "merged" 1 wMrg) {t1 : Tok} (g1 : mg "MOST_ITEMS" = some (.int 400 t1)) (as : List SV) (Q : List PyData → Prop) (h : wRby as Q) :
    WS ⟨P, w, K, mg, base, ["changes", "change"], defScope sRecordBy, fun _ => true, k⟩ (defBody sRecordBy) (startR ["changes", "change"] as) (endO Q) := by
  obtain ⟨d, cs, rfl, hd, hl, hc, q⟩ := h
  have ha : (seqLe d 400 && (items d).all fun x => intB x (-1) 1) = true := by
    have e1 : seqLe d 400 = true := by rcases hd with rfl | rfl <;> exact decide_eq_true (by rw [List.length_map]; omega)
    have e2 : items d = cs.map .int := by rcases hd with rfl | rfl <;> rfl
    rw [e1, e2, Bool.true_and, List.all_eq_true]
    intro x hx
    obtain ⟨c, hcm, rfl⟩ := List.mem_map.mp hx
    have := hc c hcm
    show (decide ((-1 : Int) ≤ c) && decide (c ≤ 1)) = true
    rw [decide_eq_true this.1, decide_eq_true this.2]
    rfl
  walk_at "S"
  refine w1_if ?_
  repeat walk_at "q"
  refine ⟨d, 400, -1, 1, rfl, by decide, _, rfl, ?_⟩
  rw [ha]
  refine ⟨fun z => (by cases z), fun _ => ?_⟩
  walk_at "S"
  show WS _ _ _ _
  walk_at "S"
  refine w1_retF (wf_call hMrg (by dsimp only; omega) ?_)
  walk_at "g"
  refine we_lcM [("change", 1)] [1] (fun x => match x with | .int c => runD (c, 1) | _ => .none) (WI.mono (Q := fun ds => ds = cs.map .int) ?_ fun ds e => ?_)
  · rcases hd with rfl | rfl
    · exact wi_list (we_name 0 rfl (by walk_at "vis") rfl ⟨_, rfl, rfl⟩)
    · exact wi_tup (we_name 0 rfl (by walk_at "vis") rfl ⟨_, rfl, rfl⟩)
  subst e
  refine ⟨by rw [List.length_map]; omega, fun x hx => ?_, ?_⟩
  · obtain ⟨c, _, rfl⟩ := List.mem_map.mp hx
    walk_at "tg"
    repeat walk_at "q"
    all_goals rfl
  · walk_at "g"
    refine ⟨_, cs.map fun c => (c, 1), rfl, ?_, by rw [List.length_map]; omega, ?_⟩
    · rw [List.map_map]
      have := runsL_self (cs.map fun c => (c, (1 : Int)))
      rw [List.map_map] at this
      exact this
    · rw [mergeL_ones]
      exact q
end

def wRqd : Wp := fun as Q => ∃ d, as = [.dat d] ∧ recB d = true ∧ Q .none
def wCrd : Wp := fun as Q => ∃ (d : PyData) (rl : List (Int × Int)), as = [.dat d] ∧ recB d = true ∧ RunsL (items d) rl ∧ Q (.int (total rl))
def wCby : WpO := fun as Q => ∃ (d : PyData) (rl : List (Int × Int)), as = [.dat d] ∧ recB d = true ∧ RunsL (items d) rl ∧ total rl ≤ 2000 ∧ Q ((expand rl).map .int)
theorem rec_seq {d : PyData} (h : recB d = true) : (d = .list (items d) ∨ d = .tuple (items d)) ∧ (items d).length ≤ 400 ∧ ∀ x ∈ items d, runB x = true := by
  obtain ⟨h1, h2⟩ := Bool.and_eq_true_iff.mp (show (seqLe d 400 && ((items d).all runB && diffB (items d))) = true from h)
  obtain ⟨h3, _⟩ := Bool.and_eq_true_iff.mp h2
  rw [List.all_eq_true] at h3
  cases d with
  | list xs => exact ⟨.inl rfl, by have := of_decide_eq_true h1; show xs.length ≤ 400; omega, h3⟩
  | tuple xs => exact ⟨.inr rfl, by have := of_decide_eq_true h1; show xs.length ≤ 400; omega, h3⟩
  | _ => cases h1
theorem runsL_pos {ds : List PyData} {rl : List (Int × Int)} (h : RunsL ds rl) (hb : ∀ x ∈ ds, runB x = true) : ∀ p ∈ rl, -1 ≤ p.1 ∧ p.1 ≤ 1 ∧ 1 ≤ p.2 ∧ p.2 ≤ 1000000000000000000000000000000 := by
  intro p hp
  obtain ⟨i, hi⟩ := List.getElem?_of_mem hp
  have hil : i < ds.length := by rw [h.1]; exact (List.getElem?_eq_some_iff.mp hi).1
  have hd : ds[i]? = some ds[i] := List.getElem?_eq_getElem hil
  obtain ⟨q, hq, hr⟩ := h.2 i _ hd
  rw [hi] at hq
  cases hq
  obtain ⟨c, n, e, _, q1, q2, q3, q4⟩ := runB_two (hb _ (List.mem_of_getElem? hd))
  have e2 : [PyData.int p.1, .int p.2] = [.int c, .int n] := by
    rcases hr with r | r <;> (rw [r] at e; exact e)
  injection e2 with e3 e4
  injection e3 with e3
  injection e4 with e4 _
  injection e4 with e4
  rw [e3, e4]
  exact ⟨q1, q2, q3, q4⟩
section
variable {P : Program} {w : World} {K : PySem.W.Frag} {mg : Str → Option Value} {base : Heap}
local macro_rules | `(tactic| walk_at "nm") => `(tactic| first | ((with_reducible show WE _ (Expr.Name "record" _) _ _); refine we_name 0 rfl (by walk_at "vis") rfl ?_))
local macro_rules | `(tactic| walk_at "no") => `(tactic| first | ((with_reducible show WO _ (Expr.Name "record" _) _ _); refine wo_own 0 rfl (by walk_at "vis") rfl ?_))
local macro_rules | `(tactic| walk_at "rel") => `(tactic| first | ((with_reducible show WG _ (Expr.Name "record" _ :: _) _ _); refine wg_rel 0 rfl (by walk_at "vis") rfl ?_))
local macro_rules | `(tactic| walk_at "set") => `(tactic| first | ((with_reducible show W1 _ (Stmt.Assign [Expr.Name "record" _] _ _) _ _); refine w1_set 0 ?_ rfl (by walk_at "loc") (Or.inl rfl)))
local macro_rules | `(tactic| walk_at "app") => `(tactic| first | ((with_reducible show W1 _ (Stmt.Expr (Expr.Call (Expr.Attribute (Expr.Name "record" _) _ _) _ _ _) _) _ _); refine w1_append 0 rfl ?_ rfl (by walk_at "vis")))
local macro_rules | `(tactic| walk_at "sto") => `(tactic| first | ((with_reducible show W1 _ (Stmt.Assign [Expr.Subscript (Expr.Name "record" _) _ _] _ _) _ _); refine w1_store 0 rfl ?_ rfl (by walk_at "vis")))
local macro_rules | `(tactic| walk_at "tg") => `(tactic| first | ((with_reducible show WTg _ (Expr.Name "record" _) _ _ _ _); refine wtg_name 0 rfl (by walk_at "loc") (by walk_at "loc") ?_))

local macro_rules | `(tactic| walk_at "fn") => `(tactic| first | ((with_reducible show WE _ (Expr.Call (Expr.Name "is_record" _) _ _ _) _ _); refine we_call (by with_reducible assumption) (by dsimp only; omega) ?_))

theorem ws_rqd {k : Nat} (hk : 3 ≤ k) (hRec : Has P w K mg base "is_record" 3 wRec) (as : List SV) (Q : PyData → Prop) (h : wRqd as Q) :
    WS ⟨P, w, K, mg, base, ["record"], defScope sRequireRecord, fun _ => true, k⟩ (defBody sRequireRecord) (startR ["record"] as) (endR Q) := by
  obtain ⟨d, rfl, hd, q⟩ := h
  repeat walk_at "s"
  · exact q
  · rename_i z
    rw [hd] at z
    cases z
end
section
variable {P : Program} {w : World} {K : PySem.W.Frag} {mg : Str → Option Value} {base : Heap}
local macro_rules | `(tactic| walk_at "nm") => `(tactic| first | ((with_reducible show WE _ (Expr.Name "record" _) _ _); refine we_name 0 rfl (by walk_at "vis") rfl ?_) | ((with_reducible show WE _ (Expr.Name "run" _) _ _); refine we_name 1 rfl (by walk_at "vis") rfl ?_))
local macro_rules | `(tactic| walk_at "no") => `(tactic| first | ((with_reducible show WO _ (Expr.Name "record" _) _ _); refine wo_own 0 rfl (by walk_at "vis") rfl ?_) | ((with_reducible show WO _ (Expr.Name "run" _) _ _); refine wo_own 1 rfl (by walk_at "vis") rfl ?_))
local macro_rules | `(tactic| walk_at "rel") => `(tactic| first | ((with_reducible show WG _ (Expr.Name "record" _ :: _) _ _); refine wg_rel 0 rfl (by walk_at "vis") rfl ?_) | ((with_reducible show WG _ (Expr.Name "run" _ :: _) _ _); refine wg_rel 1 rfl (by walk_at "vis") rfl ?_))
local macro_rules | `(tactic| walk_at "set") => `(tactic| first | ((with_reducible show W1 _ (Stmt.Assign [Expr.Name "record" _] _ _) _ _); refine w1_set 0 ?_ rfl (by walk_at "loc") (Or.inl rfl)) | ((with_reducible show W1 _ (Stmt.Assign [Expr.Name "run" _] _ _) _ _); refine w1_set 1 ?_ rfl (by walk_at "loc") (Or.inl rfl)))
local macro_rules | `(tactic| walk_at "app") => `(tactic| first | ((with_reducible show W1 _ (Stmt.Expr (Expr.Call (Expr.Attribute (Expr.Name "record" _) _ _) _ _ _) _) _ _); refine w1_append 0 rfl ?_ rfl (by walk_at "vis")) | ((with_reducible show W1 _ (Stmt.Expr (Expr.Call (Expr.Attribute (Expr.Name "run" _) _ _) _ _ _) _) _ _); refine w1_append 1 rfl ?_ rfl (by walk_at "vis")))
local macro_rules | `(tactic| walk_at "sto") => `(tactic| first | ((with_reducible show W1 _ (Stmt.Assign [Expr.Subscript (Expr.Name "record" _) _ _] _ _) _ _); refine w1_store 0 rfl ?_ rfl (by walk_at "vis")) | ((with_reducible show W1 _ (Stmt.Assign [Expr.Subscript (Expr.Name "run" _) _ _] _ _) _ _); refine w1_store 1 rfl ?_ rfl (by walk_at "vis")))
local macro_rules | `(tactic| walk_at "tg") => `(tactic| first | ((with_reducible show WTg _ (Expr.Name "record" _) _ _ _ _); refine wtg_name 0 rfl (by walk_at "loc") (by walk_at "loc") ?_) | ((with_reducible show WTg _ (Expr.Name "run" _) _ _ _ _); refine wtg_name 1 rfl (by walk_at "loc") (by walk_at "loc") ?_))

local macro_rules | `(tactic| walk_at "fn") => `(tactic| first | ((with_reducible show WE _ (Expr.Call (Expr.Name "require_record" _) _ _ _) _ _); refine we_call (by with_reducible assumption) (by dsimp only; omega) ?_))

theorem ws_crd {k : Nat} (hk : 4 ≤ k) (ms : mg "sum" = none) (hRqd : Has P w K mg base "require_record" 4 wRqd) (as : List SV) (Q : PyData → Prop) (h : wCrd as Q) :
    WS ⟨P, w, K, mg, base, ["record", "run"], defScope sCountReads, fun _ => true, k⟩ (defBody sCountReads) (startR ["record", "run"] as) (endR Q) := by
  obtain ⟨d, rl, rfl, hd, hr, q⟩ := h
  obtain ⟨hseq, hlen, _⟩ := rec_seq hd
  walk_at "S"
  refine w1_expr ?_
  repeat walk_at "q"
  refine ⟨hd, ?_⟩
  show WS _ _ _ _
  walk_at "S"
  walk_at "1"
  refine we_sum (WO.of ?_) ms
  refine we_lcM [("run", 1)] [1] (fun x => match items x with | [_, n] => n | _ => .none) (WI.mono (Q := fun ds => ds = items d) ?_ fun ds e => ?_)
  · generalize items d = xs at hseq
    rcases hseq with rfl | rfl
    · exact wi_list (we_name 0 rfl (by walk_at "vis") rfl ⟨_, rfl, rfl⟩)
    · exact wi_tup (we_name 0 rfl (by walk_at "vis") rfl ⟨_, rfl, rfl⟩)
  subst e
  refine ⟨by omega, fun x hx => ?_, ?_⟩
  · obtain ⟨i, hi⟩ := List.getElem?_of_mem hx
    obtain ⟨p, hp, hx2⟩ := hr.2 i x hi
    walk_at "tg"
    rcases hx2 with rfl | rfl
    · repeat walk_at "q"
      all_goals rfl
    · repeat walk_at "q"
      all_goals rfl
  · refine ⟨rl.map fun p : Int × Int => p.2, ?_, q⟩
    congr 1
    rw [List.map_map]
    apply List.ext_getElem?
    intro i
    rw [List.getElem?_map, List.getElem?_map]
    cases z : (items d)[i]? with
    | none =>
      have : rl[i]? = none := by
        rw [List.getElem?_eq_none_iff] at z ⊢
        rw [← hr.1]
        exact z
      rw [this]
      rfl
    | some x =>
      obtain ⟨p, hp, hx2⟩ := hr.2 i x z
      rw [hp]
      rcases hx2 with rfl | rfl <;> rfl
end
section
variable {P : Program} {w : World} {K : PySem.W.Frag} {mg : Str → Option Value} {base : Heap}
local macro_rules | `(tactic| walk_at "nm") => `(tactic| first | ((with_reducible show WE _ (Expr.Name "record" _) _ _); refine we_name 0 rfl (by walk_at "vis") rfl ?_) | ((with_reducible show WE _ (Expr.Name "reads" _) _ _); refine we_name 1 rfl (by walk_at "vis") rfl ?_) | ((with_reducible show WE _ (Expr.Name "changes" _) _ _); refine we_name 2 rfl (by walk_at "vis") rfl ?_) | ((with_reducible show WE _ (Expr.Name "change" _) _ _); refine we_name 3 rfl (by walk_at "vis") rfl ?_) | ((with_reducible show WE _ (Expr.Name "count" _) _ _); refine we_name 4 rfl (by walk_at "vis") rfl ?_))
local macro_rules | `(tactic| walk_at "no") => `(tactic| first | ((with_reducible show WO _ (Expr.Name "record" _) _ _); refine wo_own 0 rfl (by walk_at "vis") rfl ?_) | ((with_reducible show WO _ (Expr.Name "reads" _) _ _); refine wo_own 1 rfl (by walk_at "vis") rfl ?_) | ((with_reducible show WO _ (Expr.Name "changes" _) _ _); refine wo_own 2 rfl (by walk_at "vis") rfl ?_) | ((with_reducible show WO _ (Expr.Name "change" _) _ _); refine wo_own 3 rfl (by walk_at "vis") rfl ?_) | ((with_reducible show WO _ (Expr.Name "count" _) _ _); refine wo_own 4 rfl (by walk_at "vis") rfl ?_))
local macro_rules | `(tactic| walk_at "rel") => `(tactic| first | ((with_reducible show WG _ (Expr.Name "record" _ :: _) _ _); refine wg_rel 0 rfl (by walk_at "vis") rfl ?_) | ((with_reducible show WG _ (Expr.Name "reads" _ :: _) _ _); refine wg_rel 1 rfl (by walk_at "vis") rfl ?_) | ((with_reducible show WG _ (Expr.Name "changes" _ :: _) _ _); refine wg_rel 2 rfl (by walk_at "vis") rfl ?_) | ((with_reducible show WG _ (Expr.Name "change" _ :: _) _ _); refine wg_rel 3 rfl (by walk_at "vis") rfl ?_) | ((with_reducible show WG _ (Expr.Name "count" _ :: _) _ _); refine wg_rel 4 rfl (by walk_at "vis") rfl ?_))
local macro_rules | `(tactic| walk_at "set") => `(tactic| first | ((with_reducible show W1 _ (Stmt.Assign [Expr.Name "record" _] _ _) _ _); refine w1_set 0 ?_ rfl (by walk_at "loc") (Or.inl rfl)) | ((with_reducible show W1 _ (Stmt.Assign [Expr.Name "reads" _] _ _) _ _); refine w1_set 1 ?_ rfl (by walk_at "loc") (Or.inl rfl)) | ((with_reducible show W1 _ (Stmt.Assign [Expr.Name "changes" _] _ _) _ _); refine w1_set 2 ?_ rfl (by walk_at "loc") (Or.inl rfl)) | ((with_reducible show W1 _ (Stmt.Assign [Expr.Name "change" _] _ _) _ _); refine w1_set 3 ?_ rfl (by walk_at "loc") (Or.inl rfl)) | ((with_reducible show W1 _ (Stmt.Assign [Expr.Name "count" _] _ _) _ _); refine w1_set 4 ?_ rfl (by walk_at "loc") (Or.inl rfl)))
local macro_rules | `(tactic| walk_at "app") => `(tactic| first | ((with_reducible show W1 _ (Stmt.Expr (Expr.Call (Expr.Attribute (Expr.Name "record" _) _ _) _ _ _) _) _ _); refine w1_append 0 rfl ?_ rfl (by walk_at "vis")) | ((with_reducible show W1 _ (Stmt.Expr (Expr.Call (Expr.Attribute (Expr.Name "reads" _) _ _) _ _ _) _) _ _); refine w1_append 1 rfl ?_ rfl (by walk_at "vis")) | ((with_reducible show W1 _ (Stmt.Expr (Expr.Call (Expr.Attribute (Expr.Name "changes" _) _ _) _ _ _) _) _ _); refine w1_append 2 rfl ?_ rfl (by walk_at "vis")) | ((with_reducible show W1 _ (Stmt.Expr (Expr.Call (Expr.Attribute (Expr.Name "change" _) _ _) _ _ _) _) _ _); refine w1_append 3 rfl ?_ rfl (by walk_at "vis")) | ((with_reducible show W1 _ (Stmt.Expr (Expr.Call (Expr.Attribute (Expr.Name "count" _) _ _) _ _ _) _) _ _); refine w1_append 4 rfl ?_ rfl (by walk_at "vis")))
local macro_rules | `(tactic| walk_at "sto") => `(tactic| first | ((with_reducible show W1 _ (Stmt.Assign [Expr.Subscript (Expr.Name "record" _) _ _] _ _) _ _); refine w1_store 0 rfl ?_ rfl (by walk_at "vis")) | ((with_reducible show W1 _ (Stmt.Assign [Expr.Subscript (Expr.Name "reads" _) _ _] _ _) _ _); refine w1_store 1 rfl ?_ rfl (by walk_at "vis")) | ((with_reducible show W1 _ (Stmt.Assign [Expr.Subscript (Expr.Name "changes" _) _ _] _ _) _ _); refine w1_store 2 rfl ?_ rfl (by walk_at "vis")) | ((with_reducible show W1 _ (Stmt.Assign [Expr.Subscript (Expr.Name "change" _) _ _] _ _) _ _); refine w1_store 3 rfl ?_ rfl (by walk_at "vis")) | ((with_reducible show W1 _ (Stmt.Assign [Expr.Subscript (Expr.Name "count" _) _ _] _ _) _ _); refine w1_store 4 rfl ?_ rfl (by walk_at "vis")))
local macro_rules | `(tactic| walk_at "tg") => `(tactic| first | ((with_reducible show WTg _ (Expr.Name "record" _) _ _ _ _); refine wtg_name 0 rfl (by walk_at "loc") (by walk_at "loc") ?_) | ((with_reducible show WTg _ (Expr.Name "reads" _) _ _ _ _); refine wtg_name 1 rfl (by walk_at "loc") (by walk_at "loc") ?_) | ((with_reducible show WTg _ (Expr.Name "changes" _) _ _ _ _); refine wtg_name 2 rfl (by walk_at "loc") (by walk_at "loc") ?_) | ((with_reducible show WTg _ (Expr.Name "change" _) _ _ _ _); refine wtg_name 3 rfl (by walk_at "loc") (by walk_at "loc") ?_) | ((with_reducible show WTg _ (Expr.Name "count" _) _ _ _ _); refine wtg_name 4 rfl (by walk_at "loc") (by walk_at "loc") ?_))

local macro_rules | `(tactic| walk_at "fn") => `(tactic| first | ((with_reducible show WE _ (Expr.Call (Expr.Name "count_reads" _) _ _ _) _ _); refine we_call (by with_reducible assumption) (by dsimp only; omega) ?_))

local macro_rules | `(tactic| walk_at "nm") => `(tactic| ((with_reducible show WE _ (Expr.Name "MOST_CHANGES" _) _ _); refine we_globI (by with_reducible assumption) ?_))

theorem ws_cby {k : Nat} (hk : 5 ≤ k) (hCrd : Has P w K mg base "count_reads" 5 wCrd) {t1 : Tok} (g1 : mg "MOST_CHANGES" = some (.int 2000 t1)) (as : List SV) (Q : List PyData → Prop) (h : wCby as Q) :
    WS ⟨P, w, K, mg, base, ["record", "reads", "changes", "change", "count"], defScope sChangesBy, fun _ => true, k⟩ (defBody sChangesBy) (startR ["record", "reads", "changes", "change", "count"] as) (endO Q) := by
  obtain ⟨d, rl, rfl, hd, hr, ht, q⟩ := h
  obtain ⟨hseq, hlen, hrun⟩ := rec_seq hd
  have hpos := runsL_pos hr hrun
  walk_at "S"
  walk_at "1"
  repeat walk_at "q"
  refine ⟨d, rl, rfl, hd, hr, ?_⟩
  show WS _ _ _ _
  walk_at "S"
  refine w1_if ?_
  repeat walk_at "q"
  · rename_i z
    have := of_decide_eq_true z
    omega
  walk_at "S"
  show WS _ _ _ _
  walk_at "S"
  refine w1_setO 2 ?_ rfl (by walk_at "loc") (Or.inl rfl)
  refine wf_list (wd_nil ⟨Nat.zero_le _, ?_⟩)
  show WS _ _ _ _
  walk_at "S"
  refine w1_for [3, 4] (WI.mono (Q := fun ds => ds = items d) ?_ fun ds e => ?_)
  · generalize items d = xs at hseq
    rcases hseq with rfl | rfl
    · exact wi_list (we_name 0 rfl (by walk_at "vis") rfl ⟨_, rfl, rfl⟩)
    · exact wi_tup (we_name 0 rfl (by walk_at "vis") rfl ⟨_, rfl, rfl⟩)
  subst e
  refine ⟨fun i ρ' => ∃ t3 t4 : Option SV, ρ' = [some (.dat d), some (.dat (.int (total rl))), some (.own ((expand (rl.take i)).map .int)), t3, t4],
    ⟨none, none, rfl⟩, fun i x ρ' hx hJ => ?_, fun ρ' hJ => ?_⟩
  · obtain ⟨t3, t4, rfl⟩ := hJ
    obtain ⟨⟨c, n⟩, hp, hx2⟩ := hr.2 i x hx
    have hn := hpos _ (List.mem_of_getElem? hp)
    have hnx : expand (rl.take (i + 1)) = expand (rl.take i) ++ List.replicate n.toNat c := by rw [take_snoc hp, expand_snoc]
    have hall : ((expand (rl.take (i + 1))).length : Int) ≤ 2000 := by
      have e1 := total_expand (rl := rl) fun p hp => by have := hpos p hp; omega
      have e2 : expand rl = expand (rl.take (i + 1)) ++ expand (rl.drop (i + 1)) := by
        conv => lhs; rw [← List.take_append_drop (i + 1) rl]
        unfold expand
        rw [List.map_append, List.flatten_append]
      rw [e2, List.length_append] at e1
      omega
    rw [hnx, List.length_append, List.length_replicate] at hall
    refine wtg_pairI 3 4 hx2 rfl (by walk_at "loc") (Or.inl rfl) rfl (by walk_at "loc") (Or.inl rfl) ?_
    show WS _ _ _ _
    walk_at "S"
    refine w1_extend 2 rfl ?_ rfl (by walk_at "vis")
    repeat walk_at "q"
    have n1 : 1 ≤ n := hn.2.2.1
    have n2 : n ≤ 2000 := by omega
    refine ⟨by show -(2 ^ 63) ≤ n; omega, by show n < 2 ^ 63; omega, ?_, ?_⟩
    · show 1 * n.toNat ≤ sizeLine
      exact Nat.le_trans (show 1 * n.toNat ≤ 2000 by omega) (by decide)
    have er : (List.replicate n.toNat [PyData.int c]).flatten = (List.replicate n.toNat c).map PyData.int := by
      generalize n.toNat = m
      induction m with
      | zero => rfl
      | succ m ih => rw [List.replicate_succ, List.flatten_cons, ih, List.replicate_succ]; rfl
    rw [er]
    refine ⟨_, rfl, ?_, ws_nil ⟨some (.dat (.int c)), some (.dat (.int n)), ?_⟩⟩
    · rw [List.length_map, List.length_map, List.length_replicate]
      exact Nat.le_trans (show _ ≤ 2000 by omega) (by decide)
    · rw [hnx, List.map_append]
      rfl
  · obtain ⟨t3, t4, rfl⟩ := hJ
    rw [hr.1, List.take_length]
    show WS _ _ _ _
    walk_at "S"
    exact w1_retO 2 rfl q rfl (by walk_at "vis")
end


end Tee

namespace Tee
open PySem PySem.Spec PyProof.Rows L2
local macro_rules | `(tactic| walk_at "vis") => `(tactic| first | exact Or.inl rfl | exact Or.inr (Or.inl rfl) | exact Or.inr (Or.inr rfl))
local macro_rules | `(tactic| walk_at "loc") => `(tactic| first | exact Or.inl rfl | exact Or.inr rfl)
local macro_rules | `(tactic| walk_at "e") => `(tactic| first | ((with_reducible show WE _ (Expr.Call (Expr.Name "len" _) [Expr.Name "script" _] _ _) _ _); refine we_lenScr 0 rfl (by walk_at "vis") rfl ?_ (by with_reducible assumption)) | ((with_reducible show WE _ (Expr.Constant (Const.int _) _ _) _ _); refine we_int ?_) | ((with_reducible show WE _ (Expr.Constant (Const.str _) _ _) _ _); refine we_str ?_) | ((with_reducible show WE _ (Expr.Constant (Const.bool true) _ _) _ _); refine we_true ?_) | ((with_reducible show WE _ (Expr.Constant (Const.bool false) _ _) _ _); refine we_false ?_) | ((with_reducible show WE _ (Expr.Constant Const.none _ _) _ _); refine we_none ?_) | ((with_reducible show WE _ (Expr.BinOp _ Operator.Add _ _) _ _); refine we_plus ?_) | ((with_reducible show WE _ (Expr.BinOp _ Operator.Sub _ _) _ _); refine we_minus ?_) | ((with_reducible show WE _ (Expr.BinOp _ Operator.Mult _ _) _ _); refine we_times ?_) | ((with_reducible show WE _ (Expr.BinOp _ Operator.FloorDiv _ _) _ _); refine we_fdiv ?_) | ((with_reducible show WE _ (Expr.BinOp _ Operator.Mod _ _) _ _); refine we_mod ?_) | ((with_reducible show WE _ (Expr.BinOp _ Operator.Pow _ _) _ _); refine we_pow ?_) | ((with_reducible show WE _ (Expr.UnaryOp UnaryOp.USub _ _) _ _); refine we_neg ?_) | ((with_reducible show WE _ (Expr.UnaryOp UnaryOp.Not _ _) _ _); refine we_not ?_) | ((with_reducible show WE _ (Expr.Compare _ [_] [_] _) _ _); refine we_cmp ?_) | ((with_reducible show WE _ (Expr.Compare _ [_, _] [_, _] _) _ _); refine we_chain ?_) | ((with_reducible show WE _ (Expr.BoolOp BoolOp.And (_ :: _ :: _) _) _ _); refine we_and ?_) | ((with_reducible show WE _ (Expr.BoolOp BoolOp.Or (_ :: _ :: _) _) _ _); refine we_or ?_) | ((with_reducible show WE _ (Expr.BoolOp _ [_] _) _ _); refine we_one ?_) | ((with_reducible show WE _ (Expr.IfExp _ _ _ _) _ _); refine we_ifExp ?_) | ((with_reducible show WE _ (Expr.Subscript _ (Expr.Slice _ _ _ _) _) _ _); refine we_slice ?_) | ((with_reducible show WE _ (Expr.Subscript _ _ _) _ _); refine we_ix ?_) | ((with_reducible show WE _ (Expr.List _ _) _ _); refine we_list ?_) | ((with_reducible show WE _ (Expr.Tuple _ _ _) _ _); refine we_tuple ?_) | ((with_reducible show WE _ (Expr.Dict [] [] _) _ _); refine we_dict0 ?_) | ((with_reducible show WE _ (Expr.Dict [_] [_] _) _ _); refine we_dict1 ?_) | ((with_reducible show WE _ (Expr.Call (Expr.Name "len" _) [_] _ _) _ _); refine we_len ?_ (by with_reducible assumption)) | ((with_reducible show WE _ (Expr.Call (Expr.Name "sum" _) [_] _ _) _ _); refine we_sum ?_ (by with_reducible assumption)) | ((with_reducible show WE _ (Expr.Call (Expr.Name "max" _) [_] _ _) _ _); refine we_max ?_ (by with_reducible assumption)) | ((with_reducible show WE _ (Expr.Call (Expr.Name "min" _) [_] _ _) _ _); refine we_min ?_ (by with_reducible assumption)) | ((with_reducible show WE _ (Expr.Call (Expr.Name "max" _) [_, _] _ _) _ _); refine we_max2 ?_ (by with_reducible assumption)) | ((with_reducible show WE _ (Expr.Call (Expr.Name "min" _) [_, _] _ _) _ _); refine we_min2 ?_ (by with_reducible assumption)) | ((with_reducible show WE _ (Expr.Call (Expr.Name "int" _) [_] _ _) _ _); refine we_toInt ?_ (by with_reducible assumption)) | ((with_reducible show WE _ (Expr.Call (Expr.Name "tuple" _) [_] _ _) _ _); refine we_toTup ?_ (by with_reducible assumption)) | ((with_reducible show WE _ (Expr.Call (Expr.Name "list" _) [_] _ _) _ _); refine we_toLis ?_ (by with_reducible assumption)) | ((with_reducible show WE _ (Expr.Call (Expr.Name "all" _) [_] _ _) _ _); refine we_all ?_ (by with_reducible assumption)) | ((with_reducible show WE _ (Expr.Call (Expr.Name "any" _) [_] _ _) _ _); refine we_any ?_ (by with_reducible assumption)) | ((with_reducible show WE _ (Expr.Call (Expr.Name "repr" _) [_] _ _) _ _); refine we_repr ?_ (by with_reducible assumption)) | ((with_reducible show WE _ (Expr.Call (Expr.Name "isinstance" _) [_, Expr.Name "int" _] _ _) _ _); refine we_isi (n := "int") ?_ PyProof.Rows.boot_int (by with_reducible assumption) (by with_reducible assumption)) | ((with_reducible show WE _ (Expr.Call (Expr.Name "isinstance" _) [_, Expr.Name "bool" _] _ _) _ _); refine we_isi (n := "bool") ?_ PyProof.Rows.boot_bool (by with_reducible assumption) (by with_reducible assumption)) | ((with_reducible show WE _ (Expr.Call (Expr.Name "isinstance" _) [_, Expr.Tuple _ _ _] _ _) _ _); refine we_isi2 (n := "list") (n' := "tuple") ?_ PyProof.Rows.boot_list PyProof.Rows.boot_tuple (by with_reducible assumption) (by with_reducible assumption) (by with_reducible assumption)) | ((with_reducible show WE _ (Expr.Name _ _) _ _); walk_at "nm") | ((with_reducible show WE _ (Expr.Call (Expr.Name _ _) _ _ _) _ _); walk_at "fn"))
local macro_rules | `(tactic| walk_at "o") => `(tactic| first | ((with_reducible show WO _ (Expr.Name _ _) _ _); walk_at "no") | refine WO.of ?_)
local macro_rules | `(tactic| walk_at "t") => `(tactic| first | ((with_reducible show WT _ (Expr.Compare _ [_] [_] _) _ _); refine wt_cmp ?_) | ((with_reducible show WT _ (Expr.UnaryOp UnaryOp.Not _ _) _ _); refine wt_not ?_) | ((with_reducible show WT _ (Expr.BoolOp _ _ _) _ _); refine wt_bool ?_) | refine wt_val ?_)
local macro_rules | `(tactic| walk_at "w") => `(tactic| first | ((with_reducible show WW _ (Expr.BoolOp BoolOp.And (_ :: _ :: _) _) _ _); refine ww_and ?_) | ((with_reducible show WW _ (Expr.BoolOp BoolOp.Or (_ :: _ :: _) _) _ _); refine ww_or ?_) | ((with_reducible show WW _ (Expr.BoolOp BoolOp.And _ _) _ _); refine ww_and1 ?_) | ((with_reducible show WW _ (Expr.BoolOp BoolOp.Or _ _) _ _); refine ww_or1 ?_))
local macro_rules | `(tactic| walk_at "g") => `(tactic| first | ((with_reducible show WG _ [] _ _); refine wg_nil ?_) | ((with_reducible show WG _ (Expr.Name _ _ :: _) _ _); walk_at "rel") | refine wg_dat ?_)
local macro_rules | `(tactic| walk_at "d") => `(tactic| first | ((with_reducible show WD _ [] _ _); refine wd_nil ?_) | refine wd_cons ?_)
local macro_rules | `(tactic| walk_at "p") => `(tactic| first | ((with_reducible show WPa _ none _ _); refine wp_none ?_) | refine wp_some ?_)
local macro_rules | `(tactic| walk_at "1") => `(tactic| first | ((with_reducible show W1 _ (Stmt.If _ _ _ _) _ _); refine w1_if ?_) | ((with_reducible show W1 _ (Stmt.Return (some _) _) _ _); refine w1_ret ?_) | ((with_reducible show W1 _ (Stmt.Return none _) _ _); refine w1_retN ?_) | ((with_reducible show W1 _ (Stmt.Expr _ _) _ _); walk_at "app") | ((with_reducible show W1 _ (Stmt.Assign [Expr.Subscript _ _ _] _ _) _ _); walk_at "sto") | ((with_reducible show W1 _ (Stmt.Assign [Expr.Name _ _] _ _) _ _); walk_at "set"))
local macro_rules | `(tactic| walk_at "S") => `(tactic| first | ((with_reducible show WS _ [] _ _); refine ws_nil ?_) | refine ws_cons ?_)
local macro_rules | `(tactic| walk_at "lf") => `(tactic| first | refine ⟨_, rfl, ?_⟩ | refine ⟨fun _ => ?_, fun _ => ?_⟩)
local macro_rules | `(tactic| walk_at "cl") => `(tactic| dsimp only [PlusD, MinusD, TimesD, FdivD, ModD, PowD, CmpD, LenD, IxD, SliD, TruD, IntD, TupD, LisD, Max2D, Min2D, thenR, endR])
local macro_rules | `(tactic| walk_at "s") => `(tactic| first | ((with_reducible show WS _ _ _ _); walk_at "S") | ((with_reducible show W1 _ _ _ _); walk_at "1") | ((with_reducible show WE _ _ _ _); walk_at "e") | ((with_reducible show WO _ _ _ _); walk_at "o") | ((with_reducible show WT _ _ _ _); walk_at "t") | ((with_reducible show WW _ _ _ _); walk_at "w") | ((with_reducible show WG _ _ _ _); walk_at "g") | ((with_reducible show WD _ _ _ _); walk_at "d") | ((with_reducible show WPa _ _ _ _); walk_at "p") | ((with_reducible show List.length _ ≤ sizeLine ∧ _); refine ⟨Nat.le_trans (by simp : _ ≤ 100) (by decide), ?_⟩) | ((with_reducible show SeqAt.shaped _ = true ∧ _); refine ⟨by first | rfl | exact shaped_ints _ | assumption, ?_⟩) | ((with_reducible show (0 : Int) < _ ∧ _ < _ ∧ ∀ v : Int, _); refine ⟨by first | omega | decide, by first | exact lt8000 (by omega) | assumption, fun _ _ _ => ?_⟩) | ((with_reducible show (0 : Int) < _ ∧ _); refine ⟨by first | omega | decide, ?_⟩) | ((with_reducible show CPow _ _ ∧ _); refine ⟨⟨by decide, by decide, by decide⟩, ?_⟩) | ((with_reducible show thenR _ _ _ (Out.nx _)); show WS _ _ _ _) | walk_at "cl" | walk_at "lf")
local macro_rules | `(tactic| walk_at "q") => `(tactic| first | ((with_reducible show WE _ _ _ _); walk_at "e") | ((with_reducible show WO _ _ _ _); walk_at "o") | ((with_reducible show WT _ _ _ _); walk_at "t") | ((with_reducible show WW _ _ _ _); walk_at "w") | ((with_reducible show WG _ _ _ _); walk_at "g") | ((with_reducible show WD _ _ _ _); walk_at "d") | ((with_reducible show WPa _ _ _ _); walk_at "p") | ((with_reducible show List.length _ ≤ sizeLine ∧ _); refine ⟨Nat.le_trans (by simp : _ ≤ 100) (by decide), ?_⟩) | ((with_reducible show SeqAt.shaped _ = true ∧ _); refine ⟨by first | rfl | exact shaped_ints _ | assumption, ?_⟩) | ((with_reducible show (0 : Int) < _ ∧ _ < _ ∧ ∀ v : Int, _); refine ⟨by first | omega | decide, by first | exact lt8000 (by omega) | assumption, fun _ _ _ => ?_⟩) | ((with_reducible show (0 : Int) < _ ∧ _); refine ⟨by first | omega | decide, ?_⟩) | ((with_reducible show CPow _ _ ∧ _); refine ⟨⟨by decide, by decide, by decide⟩, ?_⟩) | walk_at "cl" | walk_at "lf")
def wRks : WpO := fun as Q => ∃ (r : Nat) (d : PyData) (hs : List Nat), as = [.dat (.int (r : Int)), .dat d] ∧ IsSeq d (hs.map natD) ∧ 1 ≤ r ∧ r ≤ 200 ∧ hs.length ≤ 400 ∧ (∀ h ∈ hs, h < r) ∧ Q ((ranksFrom (List.replicate r 0) hs).map natD)
section
variable {P : Program} {w : World} {K : PySem.W.Frag} {mg : Str → Option Value} {base : Heap}
local macro_rules | `(tactic| walk_at "nm") => `(tactic| first | ((with_reducible show WE _ (Expr.Name "readers" _) _ _); refine we_name 0 rfl (by walk_at "vis") rfl ?_) | ((with_reducible show WE _ (Expr.Name "history" _) _ _); refine we_name 1 rfl (by walk_at "vis") rfl ?_) | ((with_reducible show WE _ (Expr.Name "positions" _) _ _); refine we_name 2 rfl (by walk_at "vis") rfl ?_) | ((with_reducible show WE _ (Expr.Name "ranks" _) _ _); refine we_name 3 rfl (by walk_at "vis") rfl ?_) | ((with_reducible show WE _ (Expr.Name "reader" _) _ _); refine we_name 4 rfl (by walk_at "vis") rfl ?_) | ((with_reducible show WE _ (Expr.Name "own" _) _ _); refine we_name 5 rfl (by walk_at "vis") rfl ?_) | ((with_reducible show WE _ (Expr.Name "position" _) _ _); refine we_name 6 rfl (by walk_at "vis") rfl ?_))
local macro_rules | `(tactic| walk_at "no") => `(tactic| first | ((with_reducible show WO _ (Expr.Name "readers" _) _ _); refine wo_own 0 rfl (by walk_at "vis") rfl ?_) | ((with_reducible show WO _ (Expr.Name "history" _) _ _); refine wo_own 1 rfl (by walk_at "vis") rfl ?_) | ((with_reducible show WO _ (Expr.Name "positions" _) _ _); refine wo_own 2 rfl (by walk_at "vis") rfl ?_) | ((with_reducible show WO _ (Expr.Name "ranks" _) _ _); refine wo_own 3 rfl (by walk_at "vis") rfl ?_) | ((with_reducible show WO _ (Expr.Name "reader" _) _ _); refine wo_own 4 rfl (by walk_at "vis") rfl ?_) | ((with_reducible show WO _ (Expr.Name "own" _) _ _); refine wo_own 5 rfl (by walk_at "vis") rfl ?_) | ((with_reducible show WO _ (Expr.Name "position" _) _ _); refine wo_own 6 rfl (by walk_at "vis") rfl ?_))
local macro_rules | `(tactic| walk_at "rel") => `(tactic| first | ((with_reducible show WG _ (Expr.Name "readers" _ :: _) _ _); refine wg_rel 0 rfl (by walk_at "vis") rfl ?_) | ((with_reducible show WG _ (Expr.Name "history" _ :: _) _ _); refine wg_rel 1 rfl (by walk_at "vis") rfl ?_) | ((with_reducible show WG _ (Expr.Name "positions" _ :: _) _ _); refine wg_rel 2 rfl (by walk_at "vis") rfl ?_) | ((with_reducible show WG _ (Expr.Name "ranks" _ :: _) _ _); refine wg_rel 3 rfl (by walk_at "vis") rfl ?_) | ((with_reducible show WG _ (Expr.Name "reader" _ :: _) _ _); refine wg_rel 4 rfl (by walk_at "vis") rfl ?_) | ((with_reducible show WG _ (Expr.Name "own" _ :: _) _ _); refine wg_rel 5 rfl (by walk_at "vis") rfl ?_) | ((with_reducible show WG _ (Expr.Name "position" _ :: _) _ _); refine wg_rel 6 rfl (by walk_at "vis") rfl ?_))
local macro_rules | `(tactic| walk_at "set") => `(tactic| first | ((with_reducible show W1 _ (Stmt.Assign [Expr.Name "readers" _] _ _) _ _); refine w1_set 0 ?_ rfl (by walk_at "loc") (Or.inl rfl)) | ((with_reducible show W1 _ (Stmt.Assign [Expr.Name "history" _] _ _) _ _); refine w1_set 1 ?_ rfl (by walk_at "loc") (Or.inl rfl)) | ((with_reducible show W1 _ (Stmt.Assign [Expr.Name "positions" _] _ _) _ _); refine w1_set 2 ?_ rfl (by walk_at "loc") (Or.inl rfl)) | ((with_reducible show W1 _ (Stmt.Assign [Expr.Name "ranks" _] _ _) _ _); refine w1_set 3 ?_ rfl (by walk_at "loc") (Or.inl rfl)) | ((with_reducible show W1 _ (Stmt.Assign [Expr.Name "reader" _] _ _) _ _); refine w1_set 4 ?_ rfl (by walk_at "loc") (Or.inl rfl)) | ((with_reducible show W1 _ (Stmt.Assign [Expr.Name "own" _] _ _) _ _); refine w1_set 5 ?_ rfl (by walk_at "loc") (Or.inl rfl)) | ((with_reducible show W1 _ (Stmt.Assign [Expr.Name "position" _] _ _) _ _); refine w1_set 6 ?_ rfl (by walk_at "loc") (Or.inl rfl)))
local macro_rules | `(tactic| walk_at "app") => `(tactic| first | ((with_reducible show W1 _ (Stmt.Expr (Expr.Call (Expr.Attribute (Expr.Name "readers" _) _ _) _ _ _) _) _ _); refine w1_append 0 rfl ?_ rfl (by walk_at "vis")) | ((with_reducible show W1 _ (Stmt.Expr (Expr.Call (Expr.Attribute (Expr.Name "history" _) _ _) _ _ _) _) _ _); refine w1_append 1 rfl ?_ rfl (by walk_at "vis")) | ((with_reducible show W1 _ (Stmt.Expr (Expr.Call (Expr.Attribute (Expr.Name "positions" _) _ _) _ _ _) _) _ _); refine w1_append 2 rfl ?_ rfl (by walk_at "vis")) | ((with_reducible show W1 _ (Stmt.Expr (Expr.Call (Expr.Attribute (Expr.Name "ranks" _) _ _) _ _ _) _) _ _); refine w1_append 3 rfl ?_ rfl (by walk_at "vis")) | ((with_reducible show W1 _ (Stmt.Expr (Expr.Call (Expr.Attribute (Expr.Name "reader" _) _ _) _ _ _) _) _ _); refine w1_append 4 rfl ?_ rfl (by walk_at "vis")) | ((with_reducible show W1 _ (Stmt.Expr (Expr.Call (Expr.Attribute (Expr.Name "own" _) _ _) _ _ _) _) _ _); refine w1_append 5 rfl ?_ rfl (by walk_at "vis")) | ((with_reducible show W1 _ (Stmt.Expr (Expr.Call (Expr.Attribute (Expr.Name "position" _) _ _) _ _ _) _) _ _); refine w1_append 6 rfl ?_ rfl (by walk_at "vis")))
local macro_rules | `(tactic| walk_at "sto") => `(tactic| first | ((with_reducible show W1 _ (Stmt.Assign [Expr.Subscript (Expr.Name "readers" _) _ _] _ _) _ _); refine w1_store 0 rfl ?_ rfl (by walk_at "vis")) | ((with_reducible show W1 _ (Stmt.Assign [Expr.Subscript (Expr.Name "history" _) _ _] _ _) _ _); refine w1_store 1 rfl ?_ rfl (by walk_at "vis")) | ((with_reducible show W1 _ (Stmt.Assign [Expr.Subscript (Expr.Name "positions" _) _ _] _ _) _ _); refine w1_store 2 rfl ?_ rfl (by walk_at "vis")) | ((with_reducible show W1 _ (Stmt.Assign [Expr.Subscript (Expr.Name "ranks" _) _ _] _ _) _ _); refine w1_store 3 rfl ?_ rfl (by walk_at "vis")) | ((with_reducible show W1 _ (Stmt.Assign [Expr.Subscript (Expr.Name "reader" _) _ _] _ _) _ _); refine w1_store 4 rfl ?_ rfl (by walk_at "vis")) | ((with_reducible show W1 _ (Stmt.Assign [Expr.Subscript (Expr.Name "own" _) _ _] _ _) _ _); refine w1_store 5 rfl ?_ rfl (by walk_at "vis")) | ((with_reducible show W1 _ (Stmt.Assign [Expr.Subscript (Expr.Name "position" _) _ _] _ _) _ _); refine w1_store 6 rfl ?_ rfl (by walk_at "vis")))
local macro_rules | `(tactic| walk_at "tg") => `(tactic| first | ((with_reducible show WTg _ (Expr.Name "readers" _) _ _ _ _); refine wtg_name 0 rfl (by walk_at "loc") (by walk_at "loc") ?_) | ((with_reducible show WTg _ (Expr.Name "history" _) _ _ _ _); refine wtg_name 1 rfl (by walk_at "loc") (by walk_at "loc") ?_) | ((with_reducible show WTg _ (Expr.Name "positions" _) _ _ _ _); refine wtg_name 2 rfl (by walk_at "loc") (by walk_at "loc") ?_) | ((with_reducible show WTg _ (Expr.Name "ranks" _) _ _ _ _); refine wtg_name 3 rfl (by walk_at "loc") (by walk_at "loc") ?_) | ((with_reducible show WTg _ (Expr.Name "reader" _) _ _ _ _); refine wtg_name 4 rfl (by walk_at "loc") (by walk_at "loc") ?_) | ((with_reducible show WTg _ (Expr.Name "own" _) _ _ _ _); refine wtg_name 5 rfl (by walk_at "loc") (by walk_at "loc") ?_) | ((with_reducible show WTg _ (Expr.Name "position" _) _ _ _ _); refine wtg_name 6 rfl (by walk_at "loc") (by walk_at "loc") ?_))

local macro_rules | `(tactic| walk_at "fn") => `(tactic| first | ((with_reducible show WE _ (Expr.Call (Expr.Name "require_history" _) _ _ _) _ _); refine we_call (by with_reducible assumption) (by dsimp only; omega) ?_))

theorem ws_rks {k : Nat} (hk : 4 ≤ k) (B : Bl mg) (hRqh : Has P w K mg base "require_history" 4 wRqh) (as : List SV) (Q : List PyData → Prop) (h : wRks as Q) :
    WS ⟨P, w, K, mg, base, ["readers", "history", "positions", "ranks", "reader", "own", "position"], defScope sRanksOf, fun _ => true, k⟩ (defBody sRanksOf) (startR ["readers", "history", "positions", "ranks", "reader", "own", "position"] as) (endO Q) := by
  obtain ⟨mi, mn, mb, mls, mt, ml, ma, mr, mre, mmi, mma, ms⟩ := B
  obtain ⟨r, d, hs, rfl, hd, r1, r2, hl, hh, q⟩ := h
  walk_at "S"
  refine w1_expr ?_
  repeat walk_at "q"
  refine ⟨(r : Int), d, rfl, by omega, by omega, hist_seq hd hl hh, ?_⟩
  show WS _ _ _ _
  walk_at "S"
  refine w1_setO 2 ?_ rfl (by walk_at "loc") (Or.inl rfl)
  refine wf_rep ?_
  repeat walk_at "q"
  refine ⟨[.int 0], (r : Int), rfl, rfl, by omega, by omega, ?_, ?_⟩
  · show 1 * ((r : Int).toNat) ≤ sizeLine
    rw [Int.toNat_natCast]
    exact Nat.le_trans (show 1 * r ≤ 200 by omega) (by decide)
  rw [Int.toNat_natCast, repl_ints]
  show WS _ _ _ _
  walk_at "S"
  refine w1_setO 3 ?_ rfl (by walk_at "loc") (Or.inl rfl)
  refine wf_list (wd_nil ⟨Nat.zero_le _, ?_⟩)
  show WS _ _ _ _
  walk_at "S"
  refine w1_for [4] (WI.mono (Q := fun ds => ds = hs.map natD) ?_ fun ds e => ?_)
  · rcases hd with rfl | rfl
    · exact wi_list (we_name 1 rfl (by walk_at "vis") rfl ⟨_, rfl, rfl⟩)
    · exact wi_tup (we_name 1 rfl (by walk_at "vis") rfl ⟨_, rfl, rfl⟩)
  subst e
  refine ⟨fun i ρ' => ∃ t4 t5 t6 : Option SV, ρ' = [some (.dat (.int (r : Int))), some (.dat d), some (.own ((bumps (List.replicate r 0) (hs.take i)).map .int)), some (.own ((ranksFrom (List.replicate r 0) (hs.take i)).map natD)), t4, t5, t6],
    ⟨none, none, none, rfl⟩, fun i y ρ' hy hJ => ?_, fun ρ' hJ => ?_⟩
  · obtain ⟨t4, t5, t6, rfl⟩ := hJ
    obtain ⟨h, hi, rfl⟩ := natD_get hy
    have hil : i < hs.length := (List.getElem?_eq_some_iff.mp hi).1
    have hlt : h < r := hh h (List.mem_of_getElem? hi)
    generalize hL : bumps (List.replicate r 0) (hs.take i) = l
    have hll : l.length = r := by rw [← hL, bumps_len, List.length_replicate]
    have hx : l[h]? = some l[h] := List.getElem?_eq_getElem (by omega)
    have gx : l.getD h 0 = l[h] := by rw [List.getD_eq_getElem?_getD, hx]; rfl
    have hsz : ((ranksFrom (List.replicate r 0) (hs.take i)).map natD).length < sizeLine := by
      rw [List.length_map, ranksFrom_len, List.length_take]
      exact Nat.lt_of_le_of_lt (show _ ≤ 400 by omega) (by decide)
    walk_at "tg"
    -- own
    walk_at "S"
    walk_at "1"
    repeat walk_at "q"
    refine ⟨.int l[h], ints_at hx, ?_⟩
    show WS _ _ _ _
    -- ranks.append
    walk_at "S"
    walk_at "1"
    refine we_lend 2 rfl (we_len (WO.of ?_) ml)
    refine we_lcF [("position", 6)] [6] (gtP l[h]) (fun d => d) (wi_list ?_)
    walk_at "q"
    refine ⟨_, rfl, by rw [List.length_map]; omega, fun d hd => ?_, ?_⟩
    · obtain ⟨y, hy, rfl⟩ := List.mem_map.mp hd
      walk_at "tg"
      repeat walk_at "q"
      refine ⟨rfl, fun _ => ?_⟩
      repeat walk_at "q"
      all_goals rfl
    show _ ∧ _
    rw [gtP_len]
    refine ⟨rfl, hsz, ?_⟩
    show WS _ _ _ _
    -- positions[reader]
    walk_at "S"
    walk_at "1"
    repeat walk_at "q"
    refine ⟨(h : Int), h, rfl, ixN_nat (by rw [List.length_map]; omega), ?_⟩
    have e2 : (l.map PyData.int).set h (.int (l[h] + 1)) = (bump l h).map .int := by rw [bump_at hx, List.map_set]
    rw [e2]
    show WS _ _ _ _
    refine ws_nil ⟨some (.dat (natD h)), some (.dat (.int l[h])), t6, ?_⟩
    rw [take_snoc hi, ranksFrom_snoc, bumps_snoc, hL, List.map_append, gx]
    rfl
  · obtain ⟨t4, t5, t6, rfl⟩ := hJ
    rw [List.length_map, List.take_length]
    show WS _ _ _ _
    walk_at "S"
    exact w1_retO 3 rfl q rfl (by walk_at "vis")
end


end Tee

namespace Tee
open PySem PySem.Spec PyProof.Rows L2
local macro_rules | `(tactic| walk_at "vis") => `(tactic| first | exact Or.inl rfl | exact Or.inr (Or.inl rfl) | exact Or.inr (Or.inr rfl))
local macro_rules | `(tactic| walk_at "loc") => `(tactic| first | exact Or.inl rfl | exact Or.inr rfl)
local macro_rules | `(tactic| walk_at "e") => `(tactic| first | ((with_reducible show WE _ (Expr.Call (Expr.Name "len" _) [Expr.Name "script" _] _ _) _ _); refine we_lenScr 0 rfl (by walk_at "vis") rfl ?_ (by with_reducible assumption)) | ((with_reducible show WE _ (Expr.Constant (Const.int _) _ _) _ _); refine we_int ?_) | ((with_reducible show WE _ (Expr.Constant (Const.str _) _ _) _ _); refine we_str ?_) | ((with_reducible show WE _ (Expr.Constant (Const.bool true) _ _) _ _); refine we_true ?_) | ((with_reducible show WE _ (Expr.Constant (Const.bool false) _ _) _ _); refine we_false ?_) | ((with_reducible show WE _ (Expr.Constant Const.none _ _) _ _); refine we_none ?_) | ((with_reducible show WE _ (Expr.BinOp _ Operator.Add _ _) _ _); refine we_plus ?_) | ((with_reducible show WE _ (Expr.BinOp _ Operator.Sub _ _) _ _); refine we_minus ?_) | ((with_reducible show WE _ (Expr.BinOp _ Operator.Mult _ _) _ _); refine we_times ?_) | ((with_reducible show WE _ (Expr.BinOp _ Operator.FloorDiv _ _) _ _); refine we_fdiv ?_) | ((with_reducible show WE _ (Expr.BinOp _ Operator.Mod _ _) _ _); refine we_mod ?_) | ((with_reducible show WE _ (Expr.BinOp _ Operator.Pow _ _) _ _); refine we_pow ?_) | ((with_reducible show WE _ (Expr.UnaryOp UnaryOp.USub _ _) _ _); refine we_neg ?_) | ((with_reducible show WE _ (Expr.UnaryOp UnaryOp.Not _ _) _ _); refine we_not ?_) | ((with_reducible show WE _ (Expr.Compare _ [_] [_] _) _ _); refine we_cmp ?_) | ((with_reducible show WE _ (Expr.Compare _ [_, _] [_, _] _) _ _); refine we_chain ?_) | ((with_reducible show WE _ (Expr.BoolOp BoolOp.And (_ :: _ :: _) _) _ _); refine we_and ?_) | ((with_reducible show WE _ (Expr.BoolOp BoolOp.Or (_ :: _ :: _) _) _ _); refine we_or ?_) | ((with_reducible show WE _ (Expr.BoolOp _ [_] _) _ _); refine we_one ?_) | ((with_reducible show WE _ (Expr.IfExp _ _ _ _) _ _); refine we_ifExp ?_) | ((with_reducible show WE _ (Expr.Subscript _ (Expr.Slice _ _ _ _) _) _ _); refine we_slice ?_) | ((with_reducible show WE _ (Expr.Subscript _ _ _) _ _); refine we_ix ?_) | ((with_reducible show WE _ (Expr.List _ _) _ _); refine we_list ?_) | ((with_reducible show WE _ (Expr.Tuple _ _ _) _ _); refine we_tuple ?_) | ((with_reducible show WE _ (Expr.Dict [] [] _) _ _); refine we_dict0 ?_) | ((with_reducible show WE _ (Expr.Dict [_] [_] _) _ _); refine we_dict1 ?_) | ((with_reducible show WE _ (Expr.Call (Expr.Name "len" _) [_] _ _) _ _); refine we_len ?_ (by with_reducible assumption)) | ((with_reducible show WE _ (Expr.Call (Expr.Name "sum" _) [_] _ _) _ _); refine we_sum ?_ (by with_reducible assumption)) | ((with_reducible show WE _ (Expr.Call (Expr.Name "max" _) [_] _ _) _ _); refine we_max ?_ (by with_reducible assumption)) | ((with_reducible show WE _ (Expr.Call (Expr.Name "min" _) [_] _ _) _ _); refine we_min ?_ (by with_reducible assumption)) | ((with_reducible show WE _ (Expr.Call (Expr.Name "max" _) [_, _] _ _) _ _); refine we_max2 ?_ (by with_reducible assumption)) | ((with_reducible show WE _ (Expr.Call (Expr.Name "min" _) [_, _] _ _) _ _); refine we_min2 ?_ (by with_reducible assumption)) | ((with_reducible show WE _ (Expr.Call (Expr.Name "int" _) [_] _ _) _ _); refine we_toInt ?_ (by with_reducible assumption)) | ((with_reducible show WE _ (Expr.Call (Expr.Name "tuple" _) [_] _ _) _ _); refine we_toTup ?_ (by with_reducible assumption)) | ((with_reducible show WE _ (Expr.Call (Expr.Name "list" _) [_] _ _) _ _); refine we_toLis ?_ (by with_reducible assumption)) | ((with_reducible show WE _ (Expr.Call (Expr.Name "all" _) [_] _ _) _ _); refine we_all ?_ (by with_reducible assumption)) | ((with_reducible show WE _ (Expr.Call (Expr.Name "any" _) [_] _ _) _ _); refine we_any ?_ (by with_reducible assumption)) | ((with_reducible show WE _ (Expr.Call (Expr.Name "repr" _) [_] _ _) _ _); refine we_repr ?_ (by with_reducible assumption)) | ((with_reducible show WE _ (Expr.Call (Expr.Name "isinstance" _) [_, Expr.Name "int" _] _ _) _ _); refine we_isi (n := "int") ?_ PyProof.Rows.boot_int (by with_reducible assumption) (by with_reducible assumption)) | ((with_reducible show WE _ (Expr.Call (Expr.Name "isinstance" _) [_, Expr.Name "bool" _] _ _) _ _); refine we_isi (n := "bool") ?_ PyProof.Rows.boot_bool (by with_reducible assumption) (by with_reducible assumption)) | ((with_reducible show WE _ (Expr.Call (Expr.Name "isinstance" _) [_, Expr.Tuple _ _ _] _ _) _ _); refine we_isi2 (n := "list") (n' := "tuple") ?_ PyProof.Rows.boot_list PyProof.Rows.boot_tuple (by with_reducible assumption) (by with_reducible assumption) (by with_reducible assumption)) | ((with_reducible show WE _ (Expr.Name _ _) _ _); walk_at "nm") | ((with_reducible show WE _ (Expr.Call (Expr.Name _ _) _ _ _) _ _); walk_at "fn"))
local macro_rules | `(tactic| walk_at "o") => `(tactic| first | ((with_reducible show WO _ (Expr.Name _ _) _ _); walk_at "no") | refine WO.of ?_)
local macro_rules | `(tactic| walk_at "t") => `(tactic| first | ((with_reducible show WT _ (Expr.Compare _ [_] [_] _) _ _); refine wt_cmp ?_) | ((with_reducible show WT _ (Expr.UnaryOp UnaryOp.Not _ _) _ _); refine wt_not ?_) | ((with_reducible show WT _ (Expr.BoolOp _ _ _) _ _); refine wt_bool ?_) | refine wt_val ?_)
local macro_rules | `(tactic| walk_at "w") => `(tactic| first | ((with_reducible show WW _ (Expr.BoolOp BoolOp.And (_ :: _ :: _) _) _ _); refine ww_and ?_) | ((with_reducible show WW _ (Expr.BoolOp BoolOp.Or (_ :: _ :: _) _) _ _); refine ww_or ?_) | ((with_reducible show WW _ (Expr.BoolOp BoolOp.And _ _) _ _); refine ww_and1 ?_) | ((with_reducible show WW _ (Expr.BoolOp BoolOp.Or _ _) _ _); refine ww_or1 ?_))
local macro_rules | `(tactic| walk_at "g") => `(tactic| first | ((with_reducible show WG _ [] _ _); refine wg_nil ?_) | ((with_reducible show WG _ (Expr.Name _ _ :: _) _ _); walk_at "rel") | refine wg_dat ?_)
local macro_rules | `(tactic| walk_at "d") => `(tactic| first | ((with_reducible show WD _ [] _ _); refine wd_nil ?_) | refine wd_cons ?_)
local macro_rules | `(tactic| walk_at "p") => `(tactic| first | ((with_reducible show WPa _ none _ _); refine wp_none ?_) | refine wp_some ?_)
local macro_rules | `(tactic| walk_at "1") => `(tactic| first | ((with_reducible show W1 _ (Stmt.If _ _ _ _) _ _); refine w1_if ?_) | ((with_reducible show W1 _ (Stmt.Return (some _) _) _ _); refine w1_ret ?_) | ((with_reducible show W1 _ (Stmt.Return none _) _ _); refine w1_retN ?_) | ((with_reducible show W1 _ (Stmt.Expr _ _) _ _); walk_at "app") | ((with_reducible show W1 _ (Stmt.Assign [Expr.Subscript _ _ _] _ _) _ _); walk_at "sto") | ((with_reducible show W1 _ (Stmt.Assign [Expr.Name _ _] _ _) _ _); walk_at "set"))
local macro_rules | `(tactic| walk_at "S") => `(tactic| first | ((with_reducible show WS _ [] _ _); refine ws_nil ?_) | refine ws_cons ?_)
local macro_rules | `(tactic| walk_at "lf") => `(tactic| first | refine ⟨_, rfl, ?_⟩ | refine ⟨fun _ => ?_, fun _ => ?_⟩)
local macro_rules | `(tactic| walk_at "cl") => `(tactic| dsimp only [PlusD, MinusD, TimesD, FdivD, ModD, PowD, CmpD, LenD, IxD, SliD, TruD, IntD, TupD, LisD, Max2D, Min2D, thenR, endR])
local macro_rules | `(tactic| walk_at "s") => `(tactic| first | ((with_reducible show WS _ _ _ _); walk_at "S") | ((with_reducible show W1 _ _ _ _); walk_at "1") | ((with_reducible show WE _ _ _ _); walk_at "e") | ((with_reducible show WO _ _ _ _); walk_at "o") | ((with_reducible show WT _ _ _ _); walk_at "t") | ((with_reducible show WW _ _ _ _); walk_at "w") | ((with_reducible show WG _ _ _ _); walk_at "g") | ((with_reducible show WD _ _ _ _); walk_at "d") | ((with_reducible show WPa _ _ _ _); walk_at "p") | ((with_reducible show List.length _ ≤ sizeLine ∧ _); refine ⟨Nat.le_trans (by simp : _ ≤ 100) (by decide), ?_⟩) | ((with_reducible show SeqAt.shaped _ = true ∧ _); refine ⟨by first | rfl | exact shaped_ints _ | assumption, ?_⟩) | ((with_reducible show (0 : Int) < _ ∧ _ < _ ∧ ∀ v : Int, _); refine ⟨by first | omega | decide, by first | exact lt8000 (by omega) | assumption, fun _ _ _ => ?_⟩) | ((with_reducible show (0 : Int) < _ ∧ _); refine ⟨by first | omega | decide, ?_⟩) | ((with_reducible show CPow _ _ ∧ _); refine ⟨⟨by decide, by decide, by decide⟩, ?_⟩) | ((with_reducible show thenR _ _ _ (Out.nx _)); show WS _ _ _ _) | walk_at "cl" | walk_at "lf")
local macro_rules | `(tactic| walk_at "q") => `(tactic| first | ((with_reducible show WE _ _ _ _); walk_at "e") | ((with_reducible show WO _ _ _ _); walk_at "o") | ((with_reducible show WT _ _ _ _); walk_at "t") | ((with_reducible show WW _ _ _ _); walk_at "w") | ((with_reducible show WG _ _ _ _); walk_at "g") | ((with_reducible show WD _ _ _ _); walk_at "d") | ((with_reducible show WPa _ _ _ _); walk_at "p") | ((with_reducible show List.length _ ≤ sizeLine ∧ _); refine ⟨Nat.le_trans (by simp : _ ≤ 100) (by decide), ?_⟩) | ((with_reducible show SeqAt.shaped _ = true ∧ _); refine ⟨by first | rfl | exact shaped_ints _ | assumption, ?_⟩) | ((with_reducible show (0 : Int) < _ ∧ _ < _ ∧ ∀ v : Int, _); refine ⟨by first | omega | decide, by first | exact lt8000 (by omega) | assumption, fun _ _ _ => ?_⟩) | ((with_reducible show (0 : Int) < _ ∧ _); refine ⟨by first | omega | decide, ?_⟩) | ((with_reducible show CPow _ _ ∧ _); refine ⟨⟨by decide, by decide, by decide⟩, ?_⟩) | walk_at "cl" | walk_at "lf")
def wPos : WpO := fun as Q => ∃ (r : Nat) (d : PyData) (hs : List Nat), as = [.dat (.int (r : Int)), .dat d] ∧ IsSeq d (hs.map natD) ∧ 1 ≤ r ∧ r ≤ 200 ∧ hs.length ≤ 400 ∧ (∀ h ∈ hs, h < r) ∧ Q ((bumps (List.replicate r 0) hs).map .int)
def wCor : Wp := fun as Q => ∃ r k : Nat, as = [.dat (.int (r : Int)), .dat (.int (k : Int))] ∧ 1 ≤ r ∧ Q (.int (chg r k))
def wCof : Wp := fun as Q => ∃ (r : Nat) (d : PyData) (hs : List Nat), as = [.dat (.int (r : Int)), .dat d] ∧ IsSeq d (hs.map natD) ∧ 1 ≤ r ∧ r ≤ 200 ∧ hs.length ≤ 400 ∧ (∀ h ∈ hs, h < r) ∧ Q (.list ((chgsOf r hs).map .int))
def wRof : WpO := fun as Q => ∃ (r : Nat) (d : PyData) (hs : List Nat), as = [.dat (.int (r : Int)), .dat d] ∧ IsSeq d (hs.map natD) ∧ 1 ≤ r ∧ r ≤ 200 ∧ hs.length ≤ 400 ∧ (∀ h ∈ hs, h < r) ∧ Q ((runsOf (chgsOf r hs)).map runD)
def wGsz : Wp := fun as Q => ∃ (r : Nat) (d : PyData) (hs : List Nat), as = [.dat (.int (r : Int)), .dat d] ∧ IsSeq d (hs.map natD) ∧ 1 ≤ r ∧ r ≤ 200 ∧ hs.length ≤ 400 ∧ (∀ h ∈ hs, h < r) ∧ Q (.int (gmax 0 (sizesFrom (List.replicate r 0) hs)))
theorem eqv_ne {a b : Int} (h : PyData.eqv (.int a) (.int b) = false) : a ≠ b := fun e => by
  have h : (a == b) = false := h
  rw [e, beq_self_eq_true] at h
  cases h
theorem eqv_eq {a b : Int} (h : PyData.eqv (.int a) (.int b) = true) : a = b := by
  have h : (a == b) = true := h
  exact eq_of_beq h
theorem chgsOf_len (r : Nat) (hs : List Nat) : (chgsOf r hs).length = hs.length := by unfold chgsOf; rw [List.length_map, ranksFrom_len]
section
variable {P : Program} {w : World} {K : PySem.W.Frag} {mg : Str → Option Value} {base : Heap}
local macro_rules | `(tactic| walk_at "nm") => `(tactic| first | ((with_reducible show WE _ (Expr.Name "readers" _) _ _); refine we_name 0 rfl (by walk_at "vis") rfl ?_) | ((with_reducible show WE _ (Expr.Name "history" _) _ _); refine we_name 1 rfl (by walk_at "vis") rfl ?_) | ((with_reducible show WE _ (Expr.Name "positions" _) _ _); refine we_name 2 rfl (by walk_at "vis") rfl ?_) | ((with_reducible show WE _ (Expr.Name "reader" _) _ _); refine we_name 3 rfl (by walk_at "vis") rfl ?_))
local macro_rules | `(tactic| walk_at "no") => `(tactic| first | ((with_reducible show WO _ (Expr.Name "readers" _) _ _); refine wo_own 0 rfl (by walk_at "vis") rfl ?_) | ((with_reducible show WO _ (Expr.Name "history" _) _ _); refine wo_own 1 rfl (by walk_at "vis") rfl ?_) | ((with_reducible show WO _ (Expr.Name "positions" _) _ _); refine wo_own 2 rfl (by walk_at "vis") rfl ?_) | ((with_reducible show WO _ (Expr.Name "reader" _) _ _); refine wo_own 3 rfl (by walk_at "vis") rfl ?_))
local macro_rules | `(tactic| walk_at "rel") => `(tactic| first | ((with_reducible show WG _ (Expr.Name "readers" _ :: _) _ _); refine wg_rel 0 rfl (by walk_at "vis") rfl ?_) | ((with_reducible show WG _ (Expr.Name "history" _ :: _) _ _); refine wg_rel 1 rfl (by walk_at "vis") rfl ?_) | ((with_reducible show WG _ (Expr.Name "positions" _ :: _) _ _); refine wg_rel 2 rfl (by walk_at "vis") rfl ?_) | ((with_reducible show WG _ (Expr.Name "reader" _ :: _) _ _); refine wg_rel 3 rfl (by walk_at "vis") rfl ?_))
local macro_rules | `(tactic| walk_at "set") => `(tactic| first | ((with_reducible show W1 _ (Stmt.Assign [Expr.Name "readers" _] _ _) _ _); refine w1_set 0 ?_ rfl (by walk_at "loc") (Or.inl rfl)) | ((with_reducible show W1 _ (Stmt.Assign [Expr.Name "history" _] _ _) _ _); refine w1_set 1 ?_ rfl (by walk_at "loc") (Or.inl rfl)) | ((with_reducible show W1 _ (Stmt.Assign [Expr.Name "positions" _] _ _) _ _); refine w1_set 2 ?_ rfl (by walk_at "loc") (Or.inl rfl)) | ((with_reducible show W1 _ (Stmt.Assign [Expr.Name "reader" _] _ _) _ _); refine w1_set 3 ?_ rfl (by walk_at "loc") (Or.inl rfl)))
local macro_rules | `(tactic| walk_at "app") => `(tactic| first | ((with_reducible show W1 _ (Stmt.Expr (Expr.Call (Expr.Attribute (Expr.Name "readers" _) _ _) _ _ _) _) _ _); refine w1_append 0 rfl ?_ rfl (by walk_at "vis")) | ((with_reducible show W1 _ (Stmt.Expr (Expr.Call (Expr.Attribute (Expr.Name "history" _) _ _) _ _ _) _) _ _); refine w1_append 1 rfl ?_ rfl (by walk_at "vis")) | ((with_reducible show W1 _ (Stmt.Expr (Expr.Call (Expr.Attribute (Expr.Name "positions" _) _ _) _ _ _) _) _ _); refine w1_append 2 rfl ?_ rfl (by walk_at "vis")) | ((with_reducible show W1 _ (Stmt.Expr (Expr.Call (Expr.Attribute (Expr.Name "reader" _) _ _) _ _ _) _) _ _); refine w1_append 3 rfl ?_ rfl (by walk_at "vis")))
local macro_rules | `(tactic| walk_at "sto") => `(tactic| first | ((with_reducible show W1 _ (Stmt.Assign [Expr.Subscript (Expr.Name "readers" _) _ _] _ _) _ _); refine w1_store 0 rfl ?_ rfl (by walk_at "vis")) | ((with_reducible show W1 _ (Stmt.Assign [Expr.Subscript (Expr.Name "history" _) _ _] _ _) _ _); refine w1_store 1 rfl ?_ rfl (by walk_at "vis")) | ((with_reducible show W1 _ (Stmt.Assign [Expr.Subscript (Expr.Name "positions" _) _ _] _ _) _ _); refine w1_store 2 rfl ?_ rfl (by walk_at "vis")) | ((with_reducible show W1 _ (Stmt.Assign [Expr.Subscript (Expr.Name "reader" _) _ _] _ _) _ _); refine w1_store 3 rfl ?_ rfl (by walk_at "vis")))
local macro_rules | `(tactic| walk_at "tg") => `(tactic| first | ((with_reducible show WTg _ (Expr.Name "readers" _) _ _ _ _); refine wtg_name 0 rfl (by walk_at "loc") (by walk_at "loc") ?_) | ((with_reducible show WTg _ (Expr.Name "history" _) _ _ _ _); refine wtg_name 1 rfl (by walk_at "loc") (by walk_at "loc") ?_) | ((with_reducible show WTg _ (Expr.Name "positions" _) _ _ _ _); refine wtg_name 2 rfl (by walk_at "loc") (by walk_at "loc") ?_) | ((with_reducible show WTg _ (Expr.Name "reader" _) _ _ _ _); refine wtg_name 3 rfl (by walk_at "loc") (by walk_at "loc") ?_))

local macro_rules | `(tactic| walk_at "fn") => `(tactic| first | ((with_reducible show WE _ (Expr.Call (Expr.Name "require_history" _) _ _ _) _ _); refine we_call (by with_reducible assumption) (by dsimp only; omega) ?_))

theorem ws_pos {k : Nat} (hk : 4 ≤ k) (hRqh : Has P w K mg base "require_history" 4 wRqh) (as : List SV) (Q : List PyData → Prop) (h : wPos as Q) :
    WS ⟨P, w, K, mg, base, ["readers", "history", "positions", "reader"], defScope sPositionsAfter, fun _ => true, k⟩ (defBody sPositionsAfter) (startR ["readers", "history", "positions", "reader"] as) (endO Q) := by
  obtain ⟨r, d, hs, rfl, hd, r1, r2, hl, hh, q⟩ := h
  walk_at "S"
  refine w1_expr ?_
  repeat walk_at "q"
  refine ⟨(r : Int), d, rfl, by omega, by omega, hist_seq hd hl hh, ?_⟩
  show WS _ _ _ _
  walk_at "S"
  refine w1_setO 2 ?_ rfl (by walk_at "loc") (Or.inl rfl)
  refine wf_rep ?_
  repeat walk_at "q"
  refine ⟨[.int 0], (r : Int), rfl, rfl, by omega, by omega, ?_, ?_⟩
  · show 1 * ((r : Int).toNat) ≤ sizeLine
    rw [Int.toNat_natCast]
    exact Nat.le_trans (show 1 * r ≤ 200 by omega) (by decide)
  rw [Int.toNat_natCast, repl_ints]
  show WS _ _ _ _
  walk_at "S"
  refine w1_for [3] (WI.mono (Q := fun ds => ds = hs.map natD) ?_ fun ds e => ?_)
  · rcases hd with rfl | rfl
    · exact wi_list (we_name 1 rfl (by walk_at "vis") rfl ⟨_, rfl, rfl⟩)
    · exact wi_tup (we_name 1 rfl (by walk_at "vis") rfl ⟨_, rfl, rfl⟩)
  subst e
  refine ⟨fun i ρ' => ∃ t3 : Option SV, ρ' = [some (.dat (.int (r : Int))), some (.dat d), some (.own ((bumps (List.replicate r 0) (hs.take i)).map .int)), t3],
    ⟨none, rfl⟩, fun i y ρ' hy hJ => ?_, fun ρ' hJ => ?_⟩
  · obtain ⟨t3, rfl⟩ := hJ
    obtain ⟨h, hi, rfl⟩ := natD_get hy
    have hlt : h < r := hh h (List.mem_of_getElem? hi)
    generalize hL : bumps (List.replicate r 0) (hs.take i) = l
    have hll : l.length = r := by rw [← hL, bumps_len, List.length_replicate]
    have hx : l[h]? = some l[h] := List.getElem?_eq_getElem (by omega)
    walk_at "tg"
    walk_at "S"
    refine w1_augS 2 rfl ?_ rfl (by walk_at "vis")
    repeat walk_at "q"
    refine ⟨h, l[h], rfl, hx, ?_⟩
    repeat walk_at "q"
    refine ws_nil ⟨some (.dat (natD h)), ?_⟩
    rw [take_snoc hi, bumps_snoc, hL, bump_at hx]
    rfl
  · obtain ⟨t3, rfl⟩ := hJ
    rw [List.length_map, List.take_length]
    show WS _ _ _ _
    walk_at "S"
    exact w1_retO 2 rfl q rfl (by walk_at "vis")
end
section
variable {P : Program} {w : World} {K : PySem.W.Frag} {mg : Str → Option Value} {base : Heap}
local macro_rules | `(tactic| walk_at "nm") => `(tactic| first | ((with_reducible show WE _ (Expr.Name "readers" _) _ _); refine we_name 0 rfl (by walk_at "vis") rfl ?_) | ((with_reducible show WE _ (Expr.Name "rank" _) _ _); refine we_name 1 rfl (by walk_at "vis") rfl ?_))
local macro_rules | `(tactic| walk_at "no") => `(tactic| first | ((with_reducible show WO _ (Expr.Name "readers" _) _ _); refine wo_own 0 rfl (by walk_at "vis") rfl ?_) | ((with_reducible show WO _ (Expr.Name "rank" _) _ _); refine wo_own 1 rfl (by walk_at "vis") rfl ?_))
local macro_rules | `(tactic| walk_at "rel") => `(tactic| first | ((with_reducible show WG _ (Expr.Name "readers" _ :: _) _ _); refine wg_rel 0 rfl (by walk_at "vis") rfl ?_) | ((with_reducible show WG _ (Expr.Name "rank" _ :: _) _ _); refine wg_rel 1 rfl (by walk_at "vis") rfl ?_))
local macro_rules | `(tactic| walk_at "set") => `(tactic| first | ((with_reducible show W1 _ (Stmt.Assign [Expr.Name "readers" _] _ _) _ _); refine w1_set 0 ?_ rfl (by walk_at "loc") (Or.inl rfl)) | ((with_reducible show W1 _ (Stmt.Assign [Expr.Name "rank" _] _ _) _ _); refine w1_set 1 ?_ rfl (by walk_at "loc") (Or.inl rfl)))
local macro_rules | `(tactic| walk_at "app") => `(tactic| first | ((with_reducible show W1 _ (Stmt.Expr (Expr.Call (Expr.Attribute (Expr.Name "readers" _) _ _) _ _ _) _) _ _); refine w1_append 0 rfl ?_ rfl (by walk_at "vis")) | ((with_reducible show W1 _ (Stmt.Expr (Expr.Call (Expr.Attribute (Expr.Name "rank" _) _ _) _ _ _) _) _ _); refine w1_append 1 rfl ?_ rfl (by walk_at "vis")))
local macro_rules | `(tactic| walk_at "sto") => `(tactic| first | ((with_reducible show W1 _ (Stmt.Assign [Expr.Subscript (Expr.Name "readers" _) _ _] _ _) _ _); refine w1_store 0 rfl ?_ rfl (by walk_at "vis")) | ((with_reducible show W1 _ (Stmt.Assign [Expr.Subscript (Expr.Name "rank" _) _ _] _ _) _ _); refine w1_store 1 rfl ?_ rfl (by walk_at "vis")))
local macro_rules | `(tactic| walk_at "tg") => `(tactic| first | ((with_reducible show WTg _ (Expr.Name "readers" _) _ _ _ _); refine wtg_name 0 rfl (by walk_at "loc") (by walk_at "loc") ?_) | ((with_reducible show WTg _ (Expr.Name "rank" _) _ _ _ _); refine wtg_name 1 rfl (by walk_at "loc") (by walk_at "loc") ?_))

theorem ws_cor {k : Nat} (as : List SV) (Q : PyData → Prop) (h : wCor as Q) :
    WS ⟨P, w, K, mg, base, ["readers", "rank"], defScope sChangeOfRank, fun _ => true, k⟩ (defBody sChangeOfRank) (startR ["readers", "rank"] as) (endR Q) := by
  obtain ⟨r, k', rfl, r1, q⟩ := h
  have ei : ∀ a b : Int, PyData.eqv (.int a) (.int b) = (a == b) := fun _ _ => rfl
  repeat walk_at "s"
  · rename_i z1 z2 z3
    have z1 := eqv_ne z1
    have z2 := eqv_ne z2
    have z3 := eqv_eq z3
    unfold chg at q
    rw [if_neg (by omega), if_neg (by omega), if_pos (by omega)] at q
    exact q
  · rename_i z1 z2 z3
    have z1 := eqv_ne z1
    have z2 := eqv_ne z2
    have z3 := eqv_ne z3
    unfold chg at q
    rw [if_neg (by omega), if_neg (by omega), if_neg (by omega)] at q
    exact q
  · rename_i z1 z2
    have z1 := eqv_ne z1
    have z2 := eqv_eq z2
    unfold chg at q
    rw [if_neg (by omega), if_pos (by omega)] at q
    exact q
  · rename_i z1
    have z1 := eqv_eq z1
    unfold chg at q
    rw [if_pos (by omega)] at q
    exact q
end
section
variable {P : Program} {w : World} {K : PySem.W.Frag} {mg : Str → Option Value} {base : Heap}
local macro_rules | `(tactic| walk_at "nm") => `(tactic| first | ((with_reducible show WE _ (Expr.Name "readers" _) _ _); refine we_name 0 rfl (by walk_at "vis") rfl ?_) | ((with_reducible show WE _ (Expr.Name "history" _) _ _); refine we_name 1 rfl (by walk_at "vis") rfl ?_) | ((with_reducible show WE _ (Expr.Name "rank" _) _ _); refine we_name 2 rfl (by walk_at "vis") rfl ?_))
local macro_rules | `(tactic| walk_at "no") => `(tactic| first | ((with_reducible show WO _ (Expr.Name "readers" _) _ _); refine wo_own 0 rfl (by walk_at "vis") rfl ?_) | ((with_reducible show WO _ (Expr.Name "history" _) _ _); refine wo_own 1 rfl (by walk_at "vis") rfl ?_) | ((with_reducible show WO _ (Expr.Name "rank" _) _ _); refine wo_own 2 rfl (by walk_at "vis") rfl ?_))
local macro_rules | `(tactic| walk_at "rel") => `(tactic| first | ((with_reducible show WG _ (Expr.Name "readers" _ :: _) _ _); refine wg_rel 0 rfl (by walk_at "vis") rfl ?_) | ((with_reducible show WG _ (Expr.Name "history" _ :: _) _ _); refine wg_rel 1 rfl (by walk_at "vis") rfl ?_) | ((with_reducible show WG _ (Expr.Name "rank" _ :: _) _ _); refine wg_rel 2 rfl (by walk_at "vis") rfl ?_))
local macro_rules | `(tactic| walk_at "set") => `(tactic| first | ((with_reducible show W1 _ (Stmt.Assign [Expr.Name "readers" _] _ _) _ _); refine w1_set 0 ?_ rfl (by walk_at "loc") (Or.inl rfl)) | ((with_reducible show W1 _ (Stmt.Assign [Expr.Name "history" _] _ _) _ _); refine w1_set 1 ?_ rfl (by walk_at "loc") (Or.inl rfl)) | ((with_reducible show W1 _ (Stmt.Assign [Expr.Name "rank" _] _ _) _ _); refine w1_set 2 ?_ rfl (by walk_at "loc") (Or.inl rfl)))
local macro_rules | `(tactic| walk_at "app") => `(tactic| first | ((with_reducible show W1 _ (Stmt.Expr (Expr.Call (Expr.Attribute (Expr.Name "readers" _) _ _) _ _ _) _) _ _); refine w1_append 0 rfl ?_ rfl (by walk_at "vis")) | ((with_reducible show W1 _ (Stmt.Expr (Expr.Call (Expr.Attribute (Expr.Name "history" _) _ _) _ _ _) _) _ _); refine w1_append 1 rfl ?_ rfl (by walk_at "vis")) | ((with_reducible show W1 _ (Stmt.Expr (Expr.Call (Expr.Attribute (Expr.Name "rank" _) _ _) _ _ _) _) _ _); refine w1_append 2 rfl ?_ rfl (by walk_at "vis")))
local macro_rules | `(tactic| walk_at "sto") => `(tactic| first | ((with_reducible show W1 _ (Stmt.Assign [Expr.Subscript (Expr.Name "readers" _) _ _] _ _) _ _); refine w1_store 0 rfl ?_ rfl (by walk_at "vis")) | ((with_reducible show W1 _ (Stmt.Assign [Expr.Subscript (Expr.Name "history" _) _ _] _ _) _ _); refine w1_store 1 rfl ?_ rfl (by walk_at "vis")) | ((with_reducible show W1 _ (Stmt.Assign [Expr.Subscript (Expr.Name "rank" _) _ _] _ _) _ _); refine w1_store 2 rfl ?_ rfl (by walk_at "vis")))
local macro_rules | `(tactic| walk_at "tg") => `(tactic| first | ((with_reducible show WTg _ (Expr.Name "readers" _) _ _ _ _); refine wtg_name 0 rfl (by walk_at "loc") (by walk_at "loc") ?_) | ((with_reducible show WTg _ (Expr.Name "history" _) _ _ _ _); refine wtg_name 1 rfl (by walk_at "loc") (by walk_at "loc") ?_) | ((with_reducible show WTg _ (Expr.Name "rank" _) _ _ _ _); refine wtg_name 2 rfl (by walk_at "loc") (by walk_at "loc") ?_))

local macro_rules | `(tactic| walk_at "fn") => `(tactic| first | ((with_reducible show WE _ (Expr.Call (Expr.Name "change_of_rank" _) _ _ _) _ _); refine we_call (by with_reducible assumption) (by dsimp only; omega) ?_))

theorem ws_cof {k : Nat} (hk : 5 ≤ k) (hCor : Has P w K mg base "change_of_rank" 1 wCor) (hRks : HasO P w K mg base "ranks_of" 5 wRks) (as : List SV) (Q : PyData → Prop) (h : wCof as Q) :
    WS ⟨P, w, K, mg, base, ["readers", "history", "rank"], defScope sChangesOf, fun _ => true, k⟩ (defBody sChangesOf) (startR ["readers", "history", "rank"] as) (endR Q) := by
  obtain ⟨r, d, hs, rfl, hd, r1, r2, hl, hh, q⟩ := h
  walk_at "S"
  walk_at "1"
  refine we_lcM [("rank", 2)] [2] (fun x => match x with | .int k => .int (chg r k.toNat) | _ => .none) (wi_list (we_callO hRks (by dsimp only; omega) ?_))
  repeat walk_at "q"
  refine ⟨r, d, hs, rfl, hd, r1, r2, hl, hh, ?_⟩
  refine ⟨_, rfl, by rw [List.length_map, ranksFrom_len]; omega, fun x hx => ?_, ?_⟩
  · obtain ⟨k', _, rfl⟩ := List.mem_map.mp hx
    walk_at "tg"
    repeat walk_at "q"
    refine ⟨r, k', rfl, r1, ?_⟩
    show PyData.int _ = .int (chg r ((k' : Int)).toNat)
    rw [Int.toNat_natCast]
  · have e : ((ranksFrom (List.replicate r 0) hs).map natD).map (fun x => match x with | .int k => PyData.int (chg r k.toNat) | _ => .none) = (chgsOf r hs).map .int := by
      unfold chgsOf
      rw [List.map_map, List.map_map]
      refine List.map_congr_left fun k' _ => ?_
      show PyData.int (chg r ((k' : Int)).toNat) = .int (chg r k')
      rw [Int.toNat_natCast]
    rw [e]
    exact q
end
section
variable {P : Program} {w : World} {K : PySem.W.Frag} {mg : Str → Option Value} {base : Heap}
local macro_rules | `(tactic| walk_at "nm") => `(tactic| first | ((with_reducible show WE _ (Expr.Name "readers" _) _ _); refine we_name 0 rfl (by walk_at "vis") rfl ?_) | ((with_reducible show WE _ (Expr.Name "history" _) _ _); refine we_name 1 rfl (by walk_at "vis") rfl ?_))
local macro_rules | `(tactic| walk_at "no") => `(tactic| first | ((with_reducible show WO _ (Expr.Name "readers" _) _ _); refine wo_own 0 rfl (by walk_at "vis") rfl ?_) | ((with_reducible show WO _ (Expr.Name "history" _) _ _); refine wo_own 1 rfl (by walk_at "vis") rfl ?_))
local macro_rules | `(tactic| walk_at "rel") => `(tactic| first | ((with_reducible show WG _ (Expr.Name "readers" _ :: _) _ _); refine wg_rel 0 rfl (by walk_at "vis") rfl ?_) | ((with_reducible show WG _ (Expr.Name "history" _ :: _) _ _); refine wg_rel 1 rfl (by walk_at "vis") rfl ?_))
local macro_rules | `(tactic| walk_at "set") => `(tactic| first | ((with_reducible show W1 _ (Stmt.Assign [Expr.Name "readers" _] _ _) _ _); refine w1_set 0 ?_ rfl (by walk_at "loc") (Or.inl rfl)) | ((with_reducible show W1 _ (Stmt.Assign [Expr.Name "history" _] _ _) _ _); refine w1_set 1 ?_ rfl (by walk_at "loc") (Or.inl rfl)))
local macro_rules | `(tactic| walk_at "app") => `(tactic| first | ((with_reducible show W1 _ (Stmt.Expr (Expr.Call (Expr.Attribute (Expr.Name "readers" _) _ _) _ _ _) _) _ _); refine w1_append 0 rfl ?_ rfl (by walk_at "vis")) | ((with_reducible show W1 _ (Stmt.Expr (Expr.Call (Expr.Attribute (Expr.Name "history" _) _ _) _ _ _) _) _ _); refine w1_append 1 rfl ?_ rfl (by walk_at "vis")))
local macro_rules | `(tactic| walk_at "sto") => `(tactic| first | ((with_reducible show W1 _ (Stmt.Assign [Expr.Subscript (Expr.Name "readers" _) _ _] _ _) _ _); refine w1_store 0 rfl ?_ rfl (by walk_at "vis")) | ((with_reducible show W1 _ (Stmt.Assign [Expr.Subscript (Expr.Name "history" _) _ _] _ _) _ _); refine w1_store 1 rfl ?_ rfl (by walk_at "vis")))
local macro_rules | `(tactic| walk_at "tg") => `(tactic| first | ((with_reducible show WTg _ (Expr.Name "readers" _) _ _ _ _); refine wtg_name 0 rfl (by walk_at "loc") (by walk_at "loc") ?_) | ((with_reducible show WTg _ (Expr.Name "history" _) _ _ _ _); refine wtg_name 1 rfl (by walk_at "loc") (by walk_at "loc") ?_))

local macro_rules | `(tactic| walk_at "fn") => `(tactic| first | ((with_reducible show WE _ (Expr.Call (Expr.Name "changes_of" _) _ _ _) _ _); refine we_call (by with_reducible assumption) (by dsimp only; omega) ?_))

theorem ws_rof {k : Nat} (hk : 6 ≤ k) (hCof : Has P w K mg base "changes_of" 6 wCof) (hRby : HasO P w K mg base "record_by" 3 wRby) (as : List SV) (Q : List PyData → Prop) (h : wRof as Q) :
    WS ⟨P, w, K, mg, base, ["readers", "history"], defScope sRecordOf, fun _ => true, k⟩ (defBody sRecordOf) (startR ["readers", "history"] as) (endO Q) := by
  obtain ⟨r, d, hs, rfl, hd, r1, r2, hl, hh, q⟩ := h
  walk_at "S"
  refine w1_retF (wf_call hRby (by dsimp only; omega) ?_)
  repeat walk_at "q"
  refine ⟨r, d, hs, rfl, hd, r1, r2, hl, hh, ?_⟩
  repeat walk_at "q"
  refine ⟨_, chgsOf r hs, rfl, .inl rfl, by rw [chgsOf_len]; exact hl, fun c hc => ?_, q⟩
  obtain ⟨k', _, rfl⟩ := List.mem_map.mp hc
  exact chg_lo r k'
end
section
variable {P : Program} {w : World} {K : PySem.W.Frag} {mg : Str → Option Value} {base : Heap}
local macro_rules | `(tactic| walk_at "nm") => `(tactic| first | ((with_reducible show WE _ (Expr.Name "readers" _) _ _); refine we_name 0 rfl (by walk_at "vis") rfl ?_) | ((with_reducible show WE _ (Expr.Name "history" _) _ _); refine we_name 1 rfl (by walk_at "vis") rfl ?_) | ((with_reducible show WE _ (Expr.Name "size" _) _ _); refine we_name 2 rfl (by walk_at "vis") rfl ?_) | ((with_reducible show WE _ (Expr.Name "greatest" _) _ _); refine we_name 3 rfl (by walk_at "vis") rfl ?_) | ((with_reducible show WE _ (Expr.Name "change" _) _ _); refine we_name 4 rfl (by walk_at "vis") rfl ?_))
local macro_rules | `(tactic| walk_at "no") => `(tactic| first | ((with_reducible show WO _ (Expr.Name "readers" _) _ _); refine wo_own 0 rfl (by walk_at "vis") rfl ?_) | ((with_reducible show WO _ (Expr.Name "history" _) _ _); refine wo_own 1 rfl (by walk_at "vis") rfl ?_) | ((with_reducible show WO _ (Expr.Name "size" _) _ _); refine wo_own 2 rfl (by walk_at "vis") rfl ?_) | ((with_reducible show WO _ (Expr.Name "greatest" _) _ _); refine wo_own 3 rfl (by walk_at "vis") rfl ?_) | ((with_reducible show WO _ (Expr.Name "change" _) _ _); refine wo_own 4 rfl (by walk_at "vis") rfl ?_))
local macro_rules | `(tactic| walk_at "rel") => `(tactic| first | ((with_reducible show WG _ (Expr.Name "readers" _ :: _) _ _); refine wg_rel 0 rfl (by walk_at "vis") rfl ?_) | ((with_reducible show WG _ (Expr.Name "history" _ :: _) _ _); refine wg_rel 1 rfl (by walk_at "vis") rfl ?_) | ((with_reducible show WG _ (Expr.Name "size" _ :: _) _ _); refine wg_rel 2 rfl (by walk_at "vis") rfl ?_) | ((with_reducible show WG _ (Expr.Name "greatest" _ :: _) _ _); refine wg_rel 3 rfl (by walk_at "vis") rfl ?_) | ((with_reducible show WG _ (Expr.Name "change" _ :: _) _ _); refine wg_rel 4 rfl (by walk_at "vis") rfl ?_))
local macro_rules | `(tactic| walk_at "set") => `(tactic| first | ((with_reducible show W1 _ (Stmt.Assign [Expr.Name "readers" _] _ _) _ _); refine w1_set 0 ?_ rfl (by walk_at "loc") (Or.inl rfl)) | ((with_reducible show W1 _ (Stmt.Assign [Expr.Name "history" _] _ _) _ _); refine w1_set 1 ?_ rfl (by walk_at "loc") (Or.inl rfl)) | ((with_reducible show W1 _ (Stmt.Assign [Expr.Name "size" _] _ _) _ _); refine w1_set 2 ?_ rfl (by walk_at "loc") (Or.inl rfl)) | ((with_reducible show W1 _ (Stmt.Assign [Expr.Name "greatest" _] _ _) _ _); refine w1_set 3 ?_ rfl (by walk_at "loc") (Or.inl rfl)) | ((with_reducible show W1 _ (Stmt.Assign [Expr.Name "change" _] _ _) _ _); refine w1_set 4 ?_ rfl (by walk_at "loc") (Or.inl rfl)))
local macro_rules | `(tactic| walk_at "app") => `(tactic| first | ((with_reducible show W1 _ (Stmt.Expr (Expr.Call (Expr.Attribute (Expr.Name "readers" _) _ _) _ _ _) _) _ _); refine w1_append 0 rfl ?_ rfl (by walk_at "vis")) | ((with_reducible show W1 _ (Stmt.Expr (Expr.Call (Expr.Attribute (Expr.Name "history" _) _ _) _ _ _) _) _ _); refine w1_append 1 rfl ?_ rfl (by walk_at "vis")) | ((with_reducible show W1 _ (Stmt.Expr (Expr.Call (Expr.Attribute (Expr.Name "size" _) _ _) _ _ _) _) _ _); refine w1_append 2 rfl ?_ rfl (by walk_at "vis")) | ((with_reducible show W1 _ (Stmt.Expr (Expr.Call (Expr.Attribute (Expr.Name "greatest" _) _ _) _ _ _) _) _ _); refine w1_append 3 rfl ?_ rfl (by walk_at "vis")) | ((with_reducible show W1 _ (Stmt.Expr (Expr.Call (Expr.Attribute (Expr.Name "change" _) _ _) _ _ _) _) _ _); refine w1_append 4 rfl ?_ rfl (by walk_at "vis")))
local macro_rules | `(tactic| walk_at "sto") => `(tactic| first | ((with_reducible show W1 _ (Stmt.Assign [Expr.Subscript (Expr.Name "readers" _) _ _] _ _) _ _); refine w1_store 0 rfl ?_ rfl (by walk_at "vis")) | ((with_reducible show W1 _ (Stmt.Assign [Expr.Subscript (Expr.Name "history" _) _ _] _ _) _ _); refine w1_store 1 rfl ?_ rfl (by walk_at "vis")) | ((with_reducible show W1 _ (Stmt.Assign [Expr.Subscript (Expr.Name "size" _) _ _] _ _) _ _); refine w1_store 2 rfl ?_ rfl (by walk_at "vis")) | ((with_reducible show W1 _ (Stmt.Assign [Expr.Subscript (Expr.Name "greatest" _) _ _] _ _) _ _); refine w1_store 3 rfl ?_ rfl (by walk_at "vis")) | ((with_reducible show W1 _ (Stmt.Assign [Expr.Subscript (Expr.Name "change" _) _ _] _ _) _ _); refine w1_store 4 rfl ?_ rfl (by walk_at "vis")))
local macro_rules | `(tactic| walk_at "tg") => `(tactic| first | ((with_reducible show WTg _ (Expr.Name "readers" _) _ _ _ _); refine wtg_name 0 rfl (by walk_at "loc") (by walk_at "loc") ?_) | ((with_reducible show WTg _ (Expr.Name "history" _) _ _ _ _); refine wtg_name 1 rfl (by walk_at "loc") (by walk_at "loc") ?_) | ((with_reducible show WTg _ (Expr.Name "size" _) _ _ _ _); refine wtg_name 2 rfl (by walk_at "loc") (by walk_at "loc") ?_) | ((with_reducible show WTg _ (Expr.Name "greatest" _) _ _ _ _); refine wtg_name 3 rfl (by walk_at "loc") (by walk_at "loc") ?_) | ((with_reducible show WTg _ (Expr.Name "change" _) _ _ _ _); refine wtg_name 4 rfl (by walk_at "loc") (by walk_at "loc") ?_))

local macro_rules | `(tactic| walk_at "fn") => `(tactic| first | ((with_reducible show WE _ (Expr.Call (Expr.Name "changes_of" _) _ _ _) _ _); refine we_call (by with_reducible assumption) (by dsimp only; omega) ?_))

theorem ws_gsz {k : Nat} (hk : 6 ≤ k) (mma : mg "max" = none) (hCof : Has P w K mg base "changes_of" 6 wCof) (as : List SV) (Q : PyData → Prop) (h : wGsz as Q) :
    WS ⟨P, w, K, mg, base, ["readers", "history", "size", "greatest", "change"], defScope sGreatestSize, fun _ => true, k⟩ (defBody sGreatestSize) (startR ["readers", "history", "size", "greatest", "change"] as) (endR Q) := by
  obtain ⟨r, d, hs, rfl, hd, r1, r2, hl, hh, q⟩ := h
  iterate 8 walk_at "s"
  refine ws_cons (w1_for [4] (wi_list ?_))
  repeat walk_at "q"
  refine ⟨r, d, hs, rfl, hd, r1, r2, hl, hh, ?_⟩
  refine ⟨_, rfl, fun i ρ' => ∃ t4 : Option SV, ρ' = [some (.dat (.int (r : Int))), some (.dat d), some (.dat (.int (spread (bumps (List.replicate r 0) (hs.take i))))), some (.dat (.int (gmax 0 (sizesFrom (List.replicate r 0) (hs.take i))))), t4],
    ⟨none, ?_⟩, fun i y ρ' hy hJ => ?_, fun ρ' hJ => ?_⟩
  · show _ = [_, _, some (SV.dat (.int (spread (List.replicate r 0)))), _, _]
    rw [spread_zero r r1]
    rfl
  · obtain ⟨t4, rfl⟩ := hJ
    rw [List.getElem?_map] at hy
    have hil : i < hs.length := by
      rcases Nat.lt_or_ge i hs.length with z | z
      · exact z
      · rw [List.getElem?_eq_none (by rw [chgsOf_len]; exact z)] at hy
        cases hy
    have hi : hs[i]? = some hs[i] := List.getElem?_eq_getElem hil
    rw [size_step hh hi] at hy
    cases hy
    walk_at "tg"
    walk_at "S"
    refine w1_augAdd 2 rfl ?_ rfl (by walk_at "loc") (Or.inl rfl)
    repeat walk_at "q"
    show WS _ _ _ _
    walk_at "S"
    walk_at "1"
    repeat walk_at "q"
    refine ws_nil ⟨some (.dat (.int (spread (bump (bumps (List.replicate r 0) (hs.take i)) hs[i]) - spread (bumps (List.replicate r 0) (hs.take i))))), ?_⟩
    rw [take_snoc hi, bumps_snoc, sizesFrom_snoc, gmax_snoc]
    have e : spread (bumps (List.replicate r 0) (hs.take i)) + (spread (bump (bumps (List.replicate r 0) (hs.take i)) hs[i]) - spread (bumps (List.replicate r 0) (hs.take i))) = spread (bump (bumps (List.replicate r 0) (hs.take i)) hs[i]) := by omega
    rw [e]
    rfl
  · obtain ⟨t4, rfl⟩ := hJ
    rw [List.length_map, chgsOf_len, List.take_length]
    walk_at "S"
    walk_at "1"
    repeat walk_at "q"
    exact q
end


end Tee

namespace Tee
open PySem PySem.Spec PyProof.Rows L2
local macro_rules | `(tactic| walk_at "vis") => `(tactic| first | exact Or.inl rfl | exact Or.inr (Or.inl rfl) | exact Or.inr (Or.inr rfl))
local macro_rules | `(tactic| walk_at "loc") => `(tactic| first | exact Or.inl rfl | exact Or.inr rfl)
local macro_rules | `(tactic| walk_at "e") => `(tactic| first | ((with_reducible show WE _ (Expr.Call (Expr.Name "len" _) [Expr.Name "script" _] _ _) _ _); refine we_lenScr 0 rfl (by walk_at "vis") rfl ?_ (by with_reducible assumption)) | ((with_reducible show WE _ (Expr.Constant (Const.int _) _ _) _ _); refine we_int ?_) | ((with_reducible show WE _ (Expr.Constant (Const.str _) _ _) _ _); refine we_str ?_) | ((with_reducible show WE _ (Expr.Constant (Const.bool true) _ _) _ _); refine we_true ?_) | ((with_reducible show WE _ (Expr.Constant (Const.bool false) _ _) _ _); refine we_false ?_) | ((with_reducible show WE _ (Expr.Constant Const.none _ _) _ _); refine we_none ?_) | ((with_reducible show WE _ (Expr.BinOp _ Operator.Add _ _) _ _); refine we_plus ?_) | ((with_reducible show WE _ (Expr.BinOp _ Operator.Sub _ _) _ _); refine we_minus ?_) | ((with_reducible show WE _ (Expr.BinOp _ Operator.Mult _ _) _ _); refine we_times ?_) | ((with_reducible show WE _ (Expr.BinOp _ Operator.FloorDiv _ _) _ _); refine we_fdiv ?_) | ((with_reducible show WE _ (Expr.BinOp _ Operator.Mod _ _) _ _); refine we_mod ?_) | ((with_reducible show WE _ (Expr.BinOp _ Operator.Pow _ _) _ _); refine we_pow ?_) | ((with_reducible show WE _ (Expr.UnaryOp UnaryOp.USub _ _) _ _); refine we_neg ?_) | ((with_reducible show WE _ (Expr.UnaryOp UnaryOp.Not _ _) _ _); refine we_not ?_) | ((with_reducible show WE _ (Expr.Compare _ [_] [_] _) _ _); refine we_cmp ?_) | ((with_reducible show WE _ (Expr.Compare _ [_, _] [_, _] _) _ _); refine we_chain ?_) | ((with_reducible show WE _ (Expr.BoolOp BoolOp.And (_ :: _ :: _) _) _ _); refine we_and ?_) | ((with_reducible show WE _ (Expr.BoolOp BoolOp.Or (_ :: _ :: _) _) _ _); refine we_or ?_) | ((with_reducible show WE _ (Expr.BoolOp _ [_] _) _ _); refine we_one ?_) | ((with_reducible show WE _ (Expr.IfExp _ _ _ _) _ _); refine we_ifExp ?_) | ((with_reducible show WE _ (Expr.Subscript _ (Expr.Slice _ _ _ _) _) _ _); refine we_slice ?_) | ((with_reducible show WE _ (Expr.Subscript _ _ _) _ _); refine we_ix ?_) | ((with_reducible show WE _ (Expr.List _ _) _ _); refine we_list ?_) | ((with_reducible show WE _ (Expr.Tuple _ _ _) _ _); refine we_tuple ?_) | ((with_reducible show WE _ (Expr.Dict [] [] _) _ _); refine we_dict0 ?_) | ((with_reducible show WE _ (Expr.Dict [_] [_] _) _ _); refine we_dict1 ?_) | ((with_reducible show WE _ (Expr.Call (Expr.Name "len" _) [_] _ _) _ _); refine we_len ?_ (by with_reducible assumption)) | ((with_reducible show WE _ (Expr.Call (Expr.Name "sum" _) [_] _ _) _ _); refine we_sum ?_ (by with_reducible assumption)) | ((with_reducible show WE _ (Expr.Call (Expr.Name "max" _) [_] _ _) _ _); refine we_max ?_ (by with_reducible assumption)) | ((with_reducible show WE _ (Expr.Call (Expr.Name "min" _) [_] _ _) _ _); refine we_min ?_ (by with_reducible assumption)) | ((with_reducible show WE _ (Expr.Call (Expr.Name "max" _) [_, _] _ _) _ _); refine we_max2 ?_ (by with_reducible assumption)) | ((with_reducible show WE _ (Expr.Call (Expr.Name "min" _) [_, _] _ _) _ _); refine we_min2 ?_ (by with_reducible assumption)) | ((with_reducible show WE _ (Expr.Call (Expr.Name "int" _) [_] _ _) _ _); refine we_toInt ?_ (by with_reducible assumption)) | ((with_reducible show WE _ (Expr.Call (Expr.Name "tuple" _) [_] _ _) _ _); refine we_toTup ?_ (by with_reducible assumption)) | ((with_reducible show WE _ (Expr.Call (Expr.Name "list" _) [_] _ _) _ _); refine we_toLis ?_ (by with_reducible assumption)) | ((with_reducible show WE _ (Expr.Call (Expr.Name "all" _) [_] _ _) _ _); refine we_all ?_ (by with_reducible assumption)) | ((with_reducible show WE _ (Expr.Call (Expr.Name "any" _) [_] _ _) _ _); refine we_any ?_ (by with_reducible assumption)) | ((with_reducible show WE _ (Expr.Call (Expr.Name "repr" _) [_] _ _) _ _); refine we_repr ?_ (by with_reducible assumption)) | ((with_reducible show WE _ (Expr.Call (Expr.Name "isinstance" _) [_, Expr.Name "int" _] _ _) _ _); refine we_isi (n := "int") ?_ PyProof.Rows.boot_int (by with_reducible assumption) (by with_reducible assumption)) | ((with_reducible show WE _ (Expr.Call (Expr.Name "isinstance" _) [_, Expr.Name "bool" _] _ _) _ _); refine we_isi (n := "bool") ?_ PyProof.Rows.boot_bool (by with_reducible assumption) (by with_reducible assumption)) | ((with_reducible show WE _ (Expr.Call (Expr.Name "isinstance" _) [_, Expr.Tuple _ _ _] _ _) _ _); refine we_isi2 (n := "list") (n' := "tuple") ?_ PyProof.Rows.boot_list PyProof.Rows.boot_tuple (by with_reducible assumption) (by with_reducible assumption) (by with_reducible assumption)) | ((with_reducible show WE _ (Expr.Name _ _) _ _); walk_at "nm") | ((with_reducible show WE _ (Expr.Call (Expr.Name _ _) _ _ _) _ _); walk_at "fn"))
local macro_rules | `(tactic| walk_at "o") => `(tactic| first | ((with_reducible show WO _ (Expr.Name _ _) _ _); walk_at "no") | refine WO.of ?_)
local macro_rules | `(tactic| walk_at "t") => `(tactic| first | ((with_reducible show WT _ (Expr.Compare _ [_] [_] _) _ _); refine wt_cmp ?_) | ((with_reducible show WT _ (Expr.UnaryOp UnaryOp.Not _ _) _ _); refine wt_not ?_) | ((with_reducible show WT _ (Expr.BoolOp _ _ _) _ _); refine wt_bool ?_) | refine wt_val ?_)
local macro_rules | `(tactic| walk_at "w") => `(tactic| first | ((with_reducible show WW _ (Expr.BoolOp BoolOp.And (_ :: _ :: _) _) _ _); refine ww_and ?_) | ((with_reducible show WW _ (Expr.BoolOp BoolOp.Or (_ :: _ :: _) _) _ _); refine ww_or ?_) | ((with_reducible show WW _ (Expr.BoolOp BoolOp.And _ _) _ _); refine ww_and1 ?_) | ((with_reducible show WW _ (Expr.BoolOp BoolOp.Or _ _) _ _); refine ww_or1 ?_))
local macro_rules | `(tactic| walk_at "g") => `(tactic| first | ((with_reducible show WG _ [] _ _); refine wg_nil ?_) | ((with_reducible show WG _ (Expr.Name _ _ :: _) _ _); walk_at "rel") | refine wg_dat ?_)
local macro_rules | `(tactic| walk_at "d") => `(tactic| first | ((with_reducible show WD _ [] _ _); refine wd_nil ?_) | refine wd_cons ?_)
local macro_rules | `(tactic| walk_at "p") => `(tactic| first | ((with_reducible show WPa _ none _ _); refine wp_none ?_) | refine wp_some ?_)
local macro_rules | `(tactic| walk_at "1") => `(tactic| first | ((with_reducible show W1 _ (Stmt.If _ _ _ _) _ _); refine w1_if ?_) | ((with_reducible show W1 _ (Stmt.Return (some _) _) _ _); refine w1_ret ?_) | ((with_reducible show W1 _ (Stmt.Return none _) _ _); refine w1_retN ?_) | ((with_reducible show W1 _ (Stmt.Expr _ _) _ _); walk_at "app") | ((with_reducible show W1 _ (Stmt.Assign [Expr.Subscript _ _ _] _ _) _ _); walk_at "sto") | ((with_reducible show W1 _ (Stmt.Assign [Expr.Name _ _] _ _) _ _); walk_at "set"))
local macro_rules | `(tactic| walk_at "S") => `(tactic| first | ((with_reducible show WS _ [] _ _); refine ws_nil ?_) | refine ws_cons ?_)
local macro_rules | `(tactic| walk_at "lf") => `(tactic| first | refine ⟨_, rfl, ?_⟩ | refine ⟨fun _ => ?_, fun _ => ?_⟩)
local macro_rules | `(tactic| walk_at "cl") => `(tactic| dsimp only [PlusD, MinusD, TimesD, FdivD, ModD, PowD, CmpD, LenD, IxD, SliD, TruD, IntD, TupD, LisD, Max2D, Min2D, thenR, endR])
local macro_rules | `(tactic| walk_at "s") => `(tactic| first | ((with_reducible show WS _ _ _ _); walk_at "S") | ((with_reducible show W1 _ _ _ _); walk_at "1") | ((with_reducible show WE _ _ _ _); walk_at "e") | ((with_reducible show WO _ _ _ _); walk_at "o") | ((with_reducible show WT _ _ _ _); walk_at "t") | ((with_reducible show WW _ _ _ _); walk_at "w") | ((with_reducible show WG _ _ _ _); walk_at "g") | ((with_reducible show WD _ _ _ _); walk_at "d") | ((with_reducible show WPa _ _ _ _); walk_at "p") | ((with_reducible show List.length _ ≤ sizeLine ∧ _); refine ⟨Nat.le_trans (by simp : _ ≤ 100) (by decide), ?_⟩) | ((with_reducible show SeqAt.shaped _ = true ∧ _); refine ⟨by first | rfl | exact shaped_ints _ | assumption, ?_⟩) | ((with_reducible show (0 : Int) < _ ∧ _ < _ ∧ ∀ v : Int, _); refine ⟨by first | omega | decide, by first | exact lt8000 (by omega) | assumption, fun _ _ _ => ?_⟩) | ((with_reducible show (0 : Int) < _ ∧ _); refine ⟨by first | omega | decide, ?_⟩) | ((with_reducible show CPow _ _ ∧ _); refine ⟨⟨by decide, by decide, by decide⟩, ?_⟩) | ((with_reducible show thenR _ _ _ (Out.nx _)); show WS _ _ _ _) | walk_at "cl" | walk_at "lf")
local macro_rules | `(tactic| walk_at "q") => `(tactic| first | ((with_reducible show WE _ _ _ _); walk_at "e") | ((with_reducible show WO _ _ _ _); walk_at "o") | ((with_reducible show WT _ _ _ _); walk_at "t") | ((with_reducible show WW _ _ _ _); walk_at "w") | ((with_reducible show WG _ _ _ _); walk_at "g") | ((with_reducible show WD _ _ _ _); walk_at "d") | ((with_reducible show WPa _ _ _ _); walk_at "p") | ((with_reducible show List.length _ ≤ sizeLine ∧ _); refine ⟨Nat.le_trans (by simp : _ ≤ 100) (by decide), ?_⟩) | ((with_reducible show SeqAt.shaped _ = true ∧ _); refine ⟨by first | rfl | exact shaped_ints _ | assumption, ?_⟩) | ((with_reducible show (0 : Int) < _ ∧ _ < _ ∧ ∀ v : Int, _); refine ⟨by first | omega | decide, by first | exact lt8000 (by omega) | assumption, fun _ _ _ => ?_⟩) | ((with_reducible show (0 : Int) < _ ∧ _); refine ⟨by first | omega | decide, ?_⟩) | ((with_reducible show CPow _ _ ∧ _); refine ⟨⟨by decide, by decide, by decide⟩, ?_⟩) | walk_at "cl" | walk_at "lf")
def wKo : Wp := fun as Q => ∃ (r : Nat) (d : PyData) (ks : List Nat), as = [.dat (.int (r : Int)), .dat d] ∧ IsSeq d (ks.map natD) ∧ 1 ≤ r ∧ r ≤ 200 ∧ ks.length ≤ 400 ∧ (∀ k ∈ ks, k < r) ∧ Q (.bool (okB (List.replicate r 0) ks))
def ranksB (r : Int) (d : PyData) : Bool := histB r d && okB (List.replicate r.toNat 0) (natsOf d)
def wIsr : Wp := fun as Q => ∃ (r : Int) (d : PyData), as = [.dat (.int r), .dat d] ∧ 1 ≤ r ∧ r ≤ 200 ∧ Q (.bool (ranksB r d))
def wHby : WpO := fun as Q => ∃ (r : Nat) (d : PyData) (ks : List Nat), as = [.dat (.int (r : Int)), .dat d] ∧ IsSeq d (ks.map natD) ∧ 1 ≤ r ∧ r ≤ 200 ∧ ks.length ≤ 400 ∧ (∀ k ∈ ks, k < r) ∧ OkFrom (List.replicate r 0) ks ∧ Q ((firstFrom (List.replicate r 0) ks).map natD)
theorem okB_at : ∀ (c : List Int) (ks : List Nat) (i : Nat) (k : Nat), ks[i]? = some k → okB (bumps c (ks.take i)) (ks.drop i) = (!(decide (0 < k) && ((bumps c (ks.take i)).getD k 0 == (bumps c (ks.take i)).getD (k - 1) 0)) && okB (bumps c (ks.take (i + 1))) (ks.drop (i + 1))) := by
  intro c ks i k hk
  have e : ks.drop i = k :: ks.drop (i + 1) := by
    have hl := (List.getElem?_eq_some_iff.mp hk).1
    rw [List.drop_eq_getElem_cons hl]
    rw [List.getElem?_eq_getElem hl] at hk
    rw [Option.some.inj hk]
  rw [e, take_snoc hk, bumps_snoc]
  rfl
section
variable {P : Program} {w : World} {K : PySem.W.Frag} {mg : Str → Option Value} {base : Heap}
local macro_rules | `(tactic| walk_at "nm") => `(tactic| first | ((with_reducible show WE _ (Expr.Name "readers" _) _ _); refine we_name 0 rfl (by walk_at "vis") rfl ?_) | ((with_reducible show WE _ (Expr.Name "ranks" _) _ _); refine we_name 1 rfl (by walk_at "vis") rfl ?_) | ((with_reducible show WE _ (Expr.Name "counts" _) _ _); refine we_name 2 rfl (by walk_at "vis") rfl ?_) | ((with_reducible show WE _ (Expr.Name "rank" _) _ _); refine we_name 3 rfl (by walk_at "vis") rfl ?_))
local macro_rules | `(tactic| walk_at "no") => `(tactic| first | ((with_reducible show WO _ (Expr.Name "readers" _) _ _); refine wo_own 0 rfl (by walk_at "vis") rfl ?_) | ((with_reducible show WO _ (Expr.Name "ranks" _) _ _); refine wo_own 1 rfl (by walk_at "vis") rfl ?_) | ((with_reducible show WO _ (Expr.Name "counts" _) _ _); refine wo_own 2 rfl (by walk_at "vis") rfl ?_) | ((with_reducible show WO _ (Expr.Name "rank" _) _ _); refine wo_own 3 rfl (by walk_at "vis") rfl ?_))
local macro_rules | `(tactic| walk_at "rel") => `(tactic| first | ((with_reducible show WG _ (Expr.Name "readers" _ :: _) _ _); refine wg_rel 0 rfl (by walk_at "vis") rfl ?_) | ((with_reducible show WG _ (Expr.Name "ranks" _ :: _) _ _); refine wg_rel 1 rfl (by walk_at "vis") rfl ?_) | ((with_reducible show WG _ (Expr.Name "counts" _ :: _) _ _); refine wg_rel 2 rfl (by walk_at "vis") rfl ?_) | ((with_reducible show WG _ (Expr.Name "rank" _ :: _) _ _); refine wg_rel 3 rfl (by walk_at "vis") rfl ?_))
local macro_rules | `(tactic| walk_at "set") => `(tactic| first | ((with_reducible show W1 _ (Stmt.Assign [Expr.Name "readers" _] _ _) _ _); refine w1_set 0 ?_ rfl (by walk_at "loc") (Or.inl rfl)) | ((with_reducible show W1 _ (Stmt.Assign [Expr.Name "ranks" _] _ _) _ _); refine w1_set 1 ?_ rfl (by walk_at "loc") (Or.inl rfl)) | ((with_reducible show W1 _ (Stmt.Assign [Expr.Name "counts" _] _ _) _ _); refine w1_set 2 ?_ rfl (by walk_at "loc") (Or.inl rfl)) | ((with_reducible show W1 _ (Stmt.Assign [Expr.Name "rank" _] _ _) _ _); refine w1_set 3 ?_ rfl (by walk_at "loc") (Or.inl rfl)))
local macro_rules | `(tactic| walk_at "app") => `(tactic| first | ((with_reducible show W1 _ (Stmt.Expr (Expr.Call (Expr.Attribute (Expr.Name "readers" _) _ _) _ _ _) _) _ _); refine w1_append 0 rfl ?_ rfl (by walk_at "vis")) | ((with_reducible show W1 _ (Stmt.Expr (Expr.Call (Expr.Attribute (Expr.Name "ranks" _) _ _) _ _ _) _) _ _); refine w1_append 1 rfl ?_ rfl (by walk_at "vis")) | ((with_reducible show W1 _ (Stmt.Expr (Expr.Call (Expr.Attribute (Expr.Name "counts" _) _ _) _ _ _) _) _ _); refine w1_append 2 rfl ?_ rfl (by walk_at "vis")) | ((with_reducible show W1 _ (Stmt.Expr (Expr.Call (Expr.Attribute (Expr.Name "rank" _) _ _) _ _ _) _) _ _); refine w1_append 3 rfl ?_ rfl (by walk_at "vis")))
local macro_rules | `(tactic| walk_at "sto") => `(tactic| first | ((with_reducible show W1 _ (Stmt.Assign [Expr.Subscript (Expr.Name "readers" _) _ _] _ _) _ _); refine w1_store 0 rfl ?_ rfl (by walk_at "vis")) | ((with_reducible show W1 _ (Stmt.Assign [Expr.Subscript (Expr.Name "ranks" _) _ _] _ _) _ _); refine w1_store 1 rfl ?_ rfl (by walk_at "vis")) | ((with_reducible show W1 _ (Stmt.Assign [Expr.Subscript (Expr.Name "counts" _) _ _] _ _) _ _); refine w1_store 2 rfl ?_ rfl (by walk_at "vis")) | ((with_reducible show W1 _ (Stmt.Assign [Expr.Subscript (Expr.Name "rank" _) _ _] _ _) _ _); refine w1_store 3 rfl ?_ rfl (by walk_at "vis")))
local macro_rules | `(tactic| walk_at "tg") => `(tactic| first | ((with_reducible show WTg _ (Expr.Name "readers" _) _ _ _ _); refine wtg_name 0 rfl (by walk_at "loc") (by walk_at "loc") ?_) | ((with_reducible show WTg _ (Expr.Name "ranks" _) _ _ _ _); refine wtg_name 1 rfl (by walk_at "loc") (by walk_at "loc") ?_) | ((with_reducible show WTg _ (Expr.Name "counts" _) _ _ _ _); refine wtg_name 2 rfl (by walk_at "loc") (by walk_at "loc") ?_) | ((with_reducible show WTg _ (Expr.Name "rank" _) _ _ _ _); refine wtg_name 3 rfl (by walk_at "loc") (by walk_at "loc") ?_))

theorem ws_ko {k : Nat} (as : List SV) (Q : PyData → Prop) (h : wKo as Q) :
    WS ⟨P, w, K, mg, base, ["readers", "ranks", "counts", "rank"], defScope sKeepsOrder, fun _ => true, k⟩ (defBody sKeepsOrder) (startR ["readers", "ranks", "counts", "rank"] as) (endR Q) := by
  obtain ⟨r, d, ks, rfl, hd, r1, r2, hl, hk, q⟩ := h
  walk_at "S"
  refine w1_setO 2 ?_ rfl (by walk_at "loc") (Or.inl rfl)
  refine wf_rep ?_
  repeat walk_at "q"
  refine ⟨[.int 0], (r : Int), rfl, rfl, by omega, by omega, ?_, ?_⟩
  · show 1 * ((r : Int).toNat) ≤ sizeLine
    rw [Int.toNat_natCast]
    exact Nat.le_trans (show 1 * r ≤ 200 by omega) (by decide)
  rw [Int.toNat_natCast, repl_ints]
  show WS _ _ _ _
  walk_at "S"
  refine w1_for [3] (WI.mono (Q := fun ds => ds = ks.map natD) ?_ fun ds e => ?_)
  · rcases hd with rfl | rfl
    · exact wi_list (we_name 1 rfl (by walk_at "vis") rfl ⟨_, rfl, rfl⟩)
    · exact wi_tup (we_name 1 rfl (by walk_at "vis") rfl ⟨_, rfl, rfl⟩)
  subst e
  refine ⟨fun i ρ' => okB (List.replicate r 0) ks = okB (bumps (List.replicate r 0) (ks.take i)) (ks.drop i) ∧ ∃ t3 : Option SV, ρ' = [some (.dat (.int (r : Int))), some (.dat d), some (.own ((bumps (List.replicate r 0) (ks.take i)).map .int)), t3],
    ⟨rfl, none, rfl⟩, fun i y ρ' hy hJ => ?_, fun ρ' hJ => ?_⟩
  · obtain ⟨ho, t3, rfl⟩ := hJ
    obtain ⟨h, hi, rfl⟩ := natD_get hy
    have hlt : h < r := hk h (List.mem_of_getElem? hi)
    rw [okB_at _ _ _ _ hi] at ho
    generalize hL : bumps (List.replicate r 0) (ks.take i) = l at ho ⊢
    have hll : l.length = r := by rw [← hL, bumps_len, List.length_replicate]
    have hx : l[h]? = some l[h] := List.getElem?_eq_getElem (by omega)
    have gx : l.getD h 0 = l[h] := by rw [List.getD_eq_getElem?_getD, hx]; rfl
    walk_at "tg"
    refine ws_cut (fun ρ' => okB (List.replicate r 0) ks = okB (bumps (List.replicate r 0) (ks.take (i + 1))) (ks.drop (i + 1)) ∧ ρ' = [some (.dat (.int (r : Int))), some (.dat d), some (.own (l.map .int)), some (.dat (natD h))]) ?_ fun ρ' ⟨ho2, e⟩ => ?_
    · walk_at "1"
      refine wt_bool (ww_and (wt_cmp ?_))
      repeat walk_at "q"
      · rename_i h0
        have h0 : 0 < h := by have := of_decide_eq_true h0; omega
        have hy' : l[h - 1]? = some l[h - 1] := List.getElem?_eq_getElem (by omega)
        have gy : l.getD (h - 1) 0 = l[h - 1] := by rw [List.getD_eq_getElem?_getD, hy']; rfl
        rw [gx, gy, decide_eq_true h0, Bool.true_and] at ho
        refine ⟨.int l[h], ints_at hx, ?_⟩
        repeat walk_at "q"
        refine ⟨.int l[h - 1], ?_, ?_⟩
        · rw [show ((h : Int) - 1) = ((h - 1 : Nat) : Int) by omega]
          exact ints_at hy'
        repeat walk_at "q"
        · rename_i z
          have z : (l[h] == l[h - 1]) = true := z
          rw [z, Bool.not_true, Bool.false_and] at ho
          walk_at "S"
          walk_at "1"
          repeat walk_at "q"
          show Q _
          rw [← ho]
          exact q
        · rename_i z
          have z : (l[h] == l[h - 1]) = false := z
          rw [z, Bool.not_false, Bool.true_and] at ho
          exact ws_nil ⟨ho, rfl⟩
      · rename_i h0
        have h0 : ¬ 0 < h := fun z => by
          have := of_decide_eq_false h0
          omega
        rw [decide_eq_false h0, Bool.false_and, Bool.not_false, Bool.true_and] at ho
        refine ⟨fun z => (by cases z), fun _ => ws_nil ⟨ho, rfl⟩⟩
    subst e
    walk_at "S"
    refine w1_augS 2 rfl ?_ rfl (by walk_at "vis")
    repeat walk_at "q"
    refine ⟨h, l[h], rfl, hx, ?_⟩
    repeat walk_at "q"
    refine ws_nil ⟨ho2, some (.dat (natD h)), ?_⟩
    rw [take_snoc hi, bumps_snoc, hL, bump_at hx]
    rfl
  · obtain ⟨ho, t3, rfl⟩ := hJ
    rw [List.length_map, List.drop_length] at ho
    have e : okB (List.replicate r 0) ks = true := ho
    rw [e] at q
    walk_at "S"
    walk_at "1"
    repeat walk_at "q"
    exact q
end
section
variable {P : Program} {w : World} {K : PySem.W.Frag} {mg : Str → Option Value} {base : Heap}
local macro_rules | `(tactic| walk_at "nm") => `(tactic| first | ((with_reducible show WE _ (Expr.Name "readers" _) _ _); refine we_name 0 rfl (by walk_at "vis") rfl ?_) | ((with_reducible show WE _ (Expr.Name "value" _) _ _); refine we_name 1 rfl (by walk_at "vis") rfl ?_))
local macro_rules | `(tactic| walk_at "no") => `(tactic| first | ((with_reducible show WO _ (Expr.Name "readers" _) _ _); refine wo_own 0 rfl (by walk_at "vis") rfl ?_) | ((with_reducible show WO _ (Expr.Name "value" _) _ _); refine wo_own 1 rfl (by walk_at "vis") rfl ?_))
local macro_rules | `(tactic| walk_at "rel") => `(tactic| first | ((with_reducible show WG _ (Expr.Name "readers" _ :: _) _ _); refine wg_rel 0 rfl (by walk_at "vis") rfl ?_) | ((with_reducible show WG _ (Expr.Name "value" _ :: _) _ _); refine wg_rel 1 rfl (by walk_at "vis") rfl ?_))
local macro_rules | `(tactic| walk_at "set") => `(tactic| first | ((with_reducible show W1 _ (Stmt.Assign [Expr.Name "readers" _] _ _) _ _); refine w1_set 0 ?_ rfl (by walk_at "loc") (Or.inl rfl)) | ((with_reducible show W1 _ (Stmt.Assign [Expr.Name "value" _] _ _) _ _); refine w1_set 1 ?_ rfl (by walk_at "loc") (Or.inl rfl)))
local macro_rules | `(tactic| walk_at "app") => `(tactic| first | ((with_reducible show W1 _ (Stmt.Expr (Expr.Call (Expr.Attribute (Expr.Name "readers" _) _ _) _ _ _) _) _ _); refine w1_append 0 rfl ?_ rfl (by walk_at "vis")) | ((with_reducible show W1 _ (Stmt.Expr (Expr.Call (Expr.Attribute (Expr.Name "value" _) _ _) _ _ _) _) _ _); refine w1_append 1 rfl ?_ rfl (by walk_at "vis")))
local macro_rules | `(tactic| walk_at "sto") => `(tactic| first | ((with_reducible show W1 _ (Stmt.Assign [Expr.Subscript (Expr.Name "readers" _) _ _] _ _) _ _); refine w1_store 0 rfl ?_ rfl (by walk_at "vis")) | ((with_reducible show W1 _ (Stmt.Assign [Expr.Subscript (Expr.Name "value" _) _ _] _ _) _ _); refine w1_store 1 rfl ?_ rfl (by walk_at "vis")))
local macro_rules | `(tactic| walk_at "tg") => `(tactic| first | ((with_reducible show WTg _ (Expr.Name "readers" _) _ _ _ _); refine wtg_name 0 rfl (by walk_at "loc") (by walk_at "loc") ?_) | ((with_reducible show WTg _ (Expr.Name "value" _) _ _ _ _); refine wtg_name 1 rfl (by walk_at "loc") (by walk_at "loc") ?_))

local macro_rules | `(tactic| walk_at "fn") => `(tactic| first | ((with_reducible show WE _ (Expr.Call (Expr.Name "require_readers" _) _ _ _) _ _); refine we_call (by with_reducible assumption) (by dsimp only; omega) ?_) | ((with_reducible show WE _ (Expr.Call (Expr.Name "are_integers_between" _) _ _ _) _ _); refine we_call (by with_reducible assumption) (by dsimp only; omega) ?_) | ((with_reducible show WE _ (Expr.Call (Expr.Name "keeps_order" _) _ _ _) _ _); refine we_call (by with_reducible assumption) (by dsimp only; omega) ?_))

local macro_rules | `(tactic| walk_at "nm") => `(tactic| ((with_reducible show WE _ (Expr.Name "MOST_READERS" _) _ _); refine we_globI (by with_reducible assumption) ?_))
local macro_rules | `(tactic| walk_at "nm") => `(tactic| ((with_reducible show WE _ (Expr.Name "MOST_ITEMS" _) _ _); refine we_globI (by with_reducible assumption) ?_))

theorem ws_isr {k : Nat} (hk : 2 ≤ k) (hRqr : Has P w K mg base "require_readers" 2 wRqr) (hAib : Has P w K mg base "are_integers_between" 2 wAib) (hKo : Has P w K mg base "keeps_order" 1 wKo) {t1 t2 : Tok} (g1 : mg "MOST_READERS" = some (.int 200 t1)) (g2 : mg "MOST_ITEMS" = some (.int 400 t2)) (as : List SV) (Q : PyData → Prop) (h : wIsr as Q) :
    WS ⟨P, w, K, mg, base, ["readers", "value"], defScope sIsRanks, fun _ => true, k⟩ (defBody sIsRanks) (startR ["readers", "value"] as) (endR Q) := by
  obtain ⟨r, d, rfl, h1, h2, q⟩ := h
  walk_at "s"
  refine w1_expr ?_
  repeat walk_at "s"
  refine ⟨r, 200, rfl, h1, h2, ?_⟩
  repeat walk_at "s"
  refine ⟨d, 400, 0, r - 1, rfl, by decide, ?_⟩
  show ∃ k, PyData.bool (histB r d) = .bool k ∧ _
  refine ⟨_, rfl, fun z => ?_, fun z => ?_⟩
  · obtain ⟨a, b, c⟩ := hist_nats z
    have e : ranksB r d = okB (List.replicate r.toNat 0) (natsOf d) := by unfold ranksB; rw [z, Bool.true_and]
    rw [e] at q
    repeat walk_at "s"
    refine ⟨r.toNat, d, natsOf d, by rw [Int.toNat_of_nonneg (by omega)], a, by omega, by omega, b, fun k hk => by have := c k hk; omega, q⟩
  · have e : ranksB r d = false := by unfold ranksB; rw [z, Bool.false_and]
    rw [e] at q
    exact q
end
section
variable {P : Program} {w : World} {K : PySem.W.Frag} {mg : Str → Option Value} {base : Heap}
local macro_rules | `(tactic| walk_at "nm") => `(tactic| first | ((with_reducible show WE _ (Expr.Name "readers" _) _ _); refine we_name 0 rfl (by walk_at "vis") rfl ?_) | ((with_reducible show WE _ (Expr.Name "ranks" _) _ _); refine we_name 1 rfl (by walk_at "vis") rfl ?_) | ((with_reducible show WE _ (Expr.Name "positions" _) _ _); refine we_name 2 rfl (by walk_at "vis") rfl ?_) | ((with_reducible show WE _ (Expr.Name "state" _) _ _); refine we_name 3 rfl (by walk_at "vis") rfl ?_) | ((with_reducible show WE _ (Expr.Name "history" _) _ _); refine we_name 4 rfl (by walk_at "vis") rfl ?_) | ((with_reducible show WE _ (Expr.Name "rank" _) _ _); refine we_name 5 rfl (by walk_at "vis") rfl ?_) | ((with_reducible show WE _ (Expr.Name "reader" _) _ _); refine we_name 6 rfl (by walk_at "vis") rfl ?_))
local macro_rules | `(tactic| walk_at "no") => `(tactic| first | ((with_reducible show WO _ (Expr.Name "readers" _) _ _); refine wo_own 0 rfl (by walk_at "vis") rfl ?_) | ((with_reducible show WO _ (Expr.Name "ranks" _) _ _); refine wo_own 1 rfl (by walk_at "vis") rfl ?_) | ((with_reducible show WO _ (Expr.Name "positions" _) _ _); refine wo_own 2 rfl (by walk_at "vis") rfl ?_) | ((with_reducible show WO _ (Expr.Name "state" _) _ _); refine wo_own 3 rfl (by walk_at "vis") rfl ?_) | ((with_reducible show WO _ (Expr.Name "history" _) _ _); refine wo_own 4 rfl (by walk_at "vis") rfl ?_) | ((with_reducible show WO _ (Expr.Name "rank" _) _ _); refine wo_own 5 rfl (by walk_at "vis") rfl ?_) | ((with_reducible show WO _ (Expr.Name "reader" _) _ _); refine wo_own 6 rfl (by walk_at "vis") rfl ?_))
local macro_rules | `(tactic| walk_at "rel") => `(tactic| first | ((with_reducible show WG _ (Expr.Name "readers" _ :: _) _ _); refine wg_rel 0 rfl (by walk_at "vis") rfl ?_) | ((with_reducible show WG _ (Expr.Name "ranks" _ :: _) _ _); refine wg_rel 1 rfl (by walk_at "vis") rfl ?_) | ((with_reducible show WG _ (Expr.Name "positions" _ :: _) _ _); refine wg_rel 2 rfl (by walk_at "vis") rfl ?_) | ((with_reducible show WG _ (Expr.Name "state" _ :: _) _ _); refine wg_rel 3 rfl (by walk_at "vis") rfl ?_) | ((with_reducible show WG _ (Expr.Name "history" _ :: _) _ _); refine wg_rel 4 rfl (by walk_at "vis") rfl ?_) | ((with_reducible show WG _ (Expr.Name "rank" _ :: _) _ _); refine wg_rel 5 rfl (by walk_at "vis") rfl ?_) | ((with_reducible show WG _ (Expr.Name "reader" _ :: _) _ _); refine wg_rel 6 rfl (by walk_at "vis") rfl ?_))
local macro_rules | `(tactic| walk_at "set") => `(tactic| first | ((with_reducible show W1 _ (Stmt.Assign [Expr.Name "readers" _] _ _) _ _); refine w1_set 0 ?_ rfl (by walk_at "loc") (Or.inl rfl)) | ((with_reducible show W1 _ (Stmt.Assign [Expr.Name "ranks" _] _ _) _ _); refine w1_set 1 ?_ rfl (by walk_at "loc") (Or.inl rfl)) | ((with_reducible show W1 _ (Stmt.Assign [Expr.Name "positions" _] _ _) _ _); refine w1_set 2 ?_ rfl (by walk_at "loc") (Or.inl rfl)) | ((with_reducible show W1 _ (Stmt.Assign [Expr.Name "state" _] _ _) _ _); refine w1_set 3 ?_ rfl (by walk_at "loc") (Or.inl rfl)) | ((with_reducible show W1 _ (Stmt.Assign [Expr.Name "history" _] _ _) _ _); refine w1_set 4 ?_ rfl (by walk_at "loc") (Or.inl rfl)) | ((with_reducible show W1 _ (Stmt.Assign [Expr.Name "rank" _] _ _) _ _); refine w1_set 5 ?_ rfl (by walk_at "loc") (Or.inl rfl)) | ((with_reducible show W1 _ (Stmt.Assign [Expr.Name "reader" _] _ _) _ _); refine w1_set 6 ?_ rfl (by walk_at "loc") (Or.inl rfl)))
local macro_rules | `(tactic| walk_at "app") => `(tactic| first | ((with_reducible show W1 _ (Stmt.Expr (Expr.Call (Expr.Attribute (Expr.Name "readers" _) _ _) _ _ _) _) _ _); refine w1_append 0 rfl ?_ rfl (by walk_at "vis")) | ((with_reducible show W1 _ (Stmt.Expr (Expr.Call (Expr.Attribute (Expr.Name "ranks" _) _ _) _ _ _) _) _ _); refine w1_append 1 rfl ?_ rfl (by walk_at "vis")) | ((with_reducible show W1 _ (Stmt.Expr (Expr.Call (Expr.Attribute (Expr.Name "positions" _) _ _) _ _ _) _) _ _); refine w1_append 2 rfl ?_ rfl (by walk_at "vis")) | ((with_reducible show W1 _ (Stmt.Expr (Expr.Call (Expr.Attribute (Expr.Name "state" _) _ _) _ _ _) _) _ _); refine w1_append 3 rfl ?_ rfl (by walk_at "vis")) | ((with_reducible show W1 _ (Stmt.Expr (Expr.Call (Expr.Attribute (Expr.Name "history" _) _ _) _ _ _) _) _ _); refine w1_append 4 rfl ?_ rfl (by walk_at "vis")) | ((with_reducible show W1 _ (Stmt.Expr (Expr.Call (Expr.Attribute (Expr.Name "rank" _) _ _) _ _ _) _) _ _); refine w1_append 5 rfl ?_ rfl (by walk_at "vis")) | ((with_reducible show W1 _ (Stmt.Expr (Expr.Call (Expr.Attribute (Expr.Name "reader" _) _ _) _ _ _) _) _ _); refine w1_append 6 rfl ?_ rfl (by walk_at "vis")))
local macro_rules | `(tactic| walk_at "sto") => `(tactic| first | ((with_reducible show W1 _ (Stmt.Assign [Expr.Subscript (Expr.Name "readers" _) _ _] _ _) _ _); refine w1_store 0 rfl ?_ rfl (by walk_at "vis")) | ((with_reducible show W1 _ (Stmt.Assign [Expr.Subscript (Expr.Name "ranks" _) _ _] _ _) _ _); refine w1_store 1 rfl ?_ rfl (by walk_at "vis")) | ((with_reducible show W1 _ (Stmt.Assign [Expr.Subscript (Expr.Name "positions" _) _ _] _ _) _ _); refine w1_store 2 rfl ?_ rfl (by walk_at "vis")) | ((with_reducible show W1 _ (Stmt.Assign [Expr.Subscript (Expr.Name "state" _) _ _] _ _) _ _); refine w1_store 3 rfl ?_ rfl (by walk_at "vis")) | ((with_reducible show W1 _ (Stmt.Assign [Expr.Subscript (Expr.Name "history" _) _ _] _ _) _ _); refine w1_store 4 rfl ?_ rfl (by walk_at "vis")) | ((with_reducible show W1 _ (Stmt.Assign [Expr.Subscript (Expr.Name "rank" _) _ _] _ _) _ _); refine w1_store 5 rfl ?_ rfl (by walk_at "vis")) | ((with_reducible show W1 _ (Stmt.Assign [Expr.Subscript (Expr.Name "reader" _) _ _] _ _) _ _); refine w1_store 6 rfl ?_ rfl (by walk_at "vis")))
local macro_rules | `(tactic| walk_at "tg") => `(tactic| first | ((with_reducible show WTg _ (Expr.Name "readers" _) _ _ _ _); refine wtg_name 0 rfl (by walk_at "loc") (by walk_at "loc") ?_) | ((with_reducible show WTg _ (Expr.Name "ranks" _) _ _ _ _); refine wtg_name 1 rfl (by walk_at "loc") (by walk_at "loc") ?_) | ((with_reducible show WTg _ (Expr.Name "positions" _) _ _ _ _); refine wtg_name 2 rfl (by walk_at "loc") (by walk_at "loc") ?_) | ((with_reducible show WTg _ (Expr.Name "state" _) _ _ _ _); refine wtg_name 3 rfl (by walk_at "loc") (by walk_at "loc") ?_) | ((with_reducible show WTg _ (Expr.Name "history" _) _ _ _ _); refine wtg_name 4 rfl (by walk_at "loc") (by walk_at "loc") ?_) | ((with_reducible show WTg _ (Expr.Name "rank" _) _ _ _ _); refine wtg_name 5 rfl (by walk_at "loc") (by walk_at "loc") ?_) | ((with_reducible show WTg _ (Expr.Name "reader" _) _ _ _ _); refine wtg_name 6 rfl (by walk_at "loc") (by walk_at "loc") ?_))

local macro_rules | `(tactic| walk_at "fn") => `(tactic| first | ((with_reducible show WE _ (Expr.Call (Expr.Name "is_ranks" _) _ _ _) _ _); refine we_call (by with_reducible assumption) (by dsimp only; omega) ?_))

theorem ws_hby {k : Nat} (hk : 3 ≤ k) (hIsr : Has P w K mg base "is_ranks" 3 wIsr) (as : List SV) (Q : List PyData → Prop) (h : wHby as Q) :
    WS ⟨P, w, K, mg, base, ["readers", "ranks", "positions", "state", "history", "rank", "reader"], defScope sHistoryBy, fun _ => true, k⟩ (defBody sHistoryBy) (startR ["readers", "ranks", "positions", "state", "history", "rank", "reader"] as) (endO Q) := by
  obtain ⟨r, d, ks, rfl, hd, r1, r2, hl, hk2, ok, q⟩ := h
  have hB : ranksB (r : Int) d = true := by
    unfold ranksB
    rw [hist_seq hd hl hk2, nats_seq hd, Int.toNat_natCast, Bool.true_and]
    exact (okB_iff (dec_zero r) (by rw [List.length_replicate]; exact hk2)).mpr ok
  walk_at "S"
  refine w1_if ?_
  repeat walk_at "q"
  refine ⟨(r : Int), d, rfl, by omega, by omega, _, rfl, ?_⟩
  rw [hB]
  refine ⟨fun z => (by cases z), fun _ => ?_⟩
  walk_at "S"
  show WS _ _ _ _
  walk_at "S"
  refine w1_setO 2 ?_ rfl (by walk_at "loc") (Or.inl rfl)
  refine wf_rep ?_
  repeat walk_at "q"
  refine ⟨[.int 0], (r : Int), rfl, rfl, by omega, by omega, ?_, ?_⟩
  · show 1 * ((r : Int).toNat) ≤ sizeLine
    rw [Int.toNat_natCast]
    exact Nat.le_trans (show 1 * r ≤ 200 by omega) (by decide)
  rw [Int.toNat_natCast, repl_ints]
  show WS _ _ _ _
  walk_at "S"
  refine w1_setO 3 ?_ rfl (by walk_at "loc") (Or.inl rfl)
  refine wf_rep ?_
  repeat walk_at "q"
  refine ⟨[.int 0], (r : Int), rfl, rfl, by omega, by omega, ?_, ?_⟩
  · show 1 * ((r : Int).toNat) ≤ sizeLine
    rw [Int.toNat_natCast]
    exact Nat.le_trans (show 1 * r ≤ 200 by omega) (by decide)
  rw [Int.toNat_natCast, repl_ints]
  show WS _ _ _ _
  walk_at "S"
  refine w1_setO 4 ?_ rfl (by walk_at "loc") (Or.inl rfl)
  refine wf_list (wd_nil ⟨Nat.zero_le _, ?_⟩)
  show WS _ _ _ _
  walk_at "S"
  refine w1_for [5] (WI.mono (Q := fun ds => ds = ks.map natD) ?_ fun ds e => ?_)
  · rcases hd with rfl | rfl
    · exact wi_list (we_name 1 rfl (by walk_at "vis") rfl ⟨_, rfl, rfl⟩)
    · exact wi_tup (we_name 1 rfl (by walk_at "vis") rfl ⟨_, rfl, rfl⟩)
  subst e
  refine ⟨fun i ρ' => ∃ t5 t6 : Option SV, ρ' = [some (.dat (.int (r : Int))), some (.dat d), some (.own ((bumps (List.replicate r 0) (firstFrom (List.replicate r 0) (ks.take i))).map .int)), some (.own ((bumps (List.replicate r 0) (ks.take i)).map .int)), some (.own ((firstFrom (List.replicate r 0) (ks.take i)).map natD)), t5, t6],
    ⟨none, none, rfl⟩, fun i y ρ' hy hJ => ?_, fun ρ' hJ => ?_⟩
  · obtain ⟨t5, t6, rfl⟩ := hJ
    obtain ⟨h, hi, rfl⟩ := natD_get hy
    obtain ⟨x, x1, x2, x3, x4⟩ := first_pick (rel_start r) ok hi
    have hsz : ((firstFrom (List.replicate r 0) (ks.take i)).map natD).length < sizeLine := by
      rw [List.length_map, firstFrom_len, List.length_take]
      exact Nat.lt_of_le_of_lt (show _ ≤ 400 by omega) (by decide)
    generalize hF : firstFrom (List.replicate r 0) (ks.take i) = fs at x2 x3 x4 hsz ⊢
    generalize hL : bumps (List.replicate r 0) fs = l at x2 x3 x4 ⊢
    generalize hC : bumps (List.replicate r 0) (ks.take i) = c at x1 ⊢
    generalize hp : pick l h = p at x2 x4
    walk_at "tg"
    -- reader
    walk_at "S"
    refine w1_set 6 (we_indexI 2 rfl ?_ rfl (by walk_at "vis")) rfl (by walk_at "loc") (Or.inl rfl)
    repeat walk_at "q"
    refine ⟨.int x, ints_at x1, x, p, rfl, x2, fun m z hm hz => (x4 m z hm hz).1, ?_⟩
    show WS _ _ _ _
    -- history
    walk_at "S"
    walk_at "1"
    repeat walk_at "q"
    refine ⟨hsz, ?_⟩
    show WS _ _ _ _
    -- positions
    walk_at "S"
    refine w1_augS 2 rfl ?_ rfl (by walk_at "vis")
    repeat walk_at "q"
    refine ⟨p, x, rfl, x2, ?_⟩
    repeat walk_at "q"
    show WS _ _ _ _
    -- state
    walk_at "S"
    refine w1_augS 3 rfl ?_ rfl (by walk_at "vis")
    repeat walk_at "q"
    refine ⟨h, x, rfl, x1, ?_⟩
    repeat walk_at "q"
    refine ws_nil ⟨some (.dat (natD h)), some (.dat (.int (p : Int))), ?_⟩
    rw [take_snoc hi, firstFrom_snoc, hF, bumps_snoc, hL, hp, bumps_snoc, hC, bump_at x2, bump_at x1, List.map_append]
    rfl
  · obtain ⟨t5, t6, rfl⟩ := hJ
    rw [List.length_map, List.take_length]
    show WS _ _ _ _
    walk_at "S"
    exact w1_retO 4 rfl q rfl (by walk_at "vis")
end


end Tee

namespace Tee
open PySem PySem.Spec PyProof.Rows L2
local macro_rules | `(tactic| walk_at "vis") => `(tactic| first | exact Or.inl rfl | exact Or.inr (Or.inl rfl) | exact Or.inr (Or.inr rfl))
local macro_rules | `(tactic| walk_at "loc") => `(tactic| first | exact Or.inl rfl | exact Or.inr rfl)
local macro_rules | `(tactic| walk_at "e") => `(tactic| first | ((with_reducible show WE _ (Expr.Call (Expr.Name "len" _) [Expr.Name "script" _] _ _) _ _); refine we_lenScr 0 rfl (by walk_at "vis") rfl ?_ (by with_reducible assumption)) | ((with_reducible show WE _ (Expr.Constant (Const.int _) _ _) _ _); refine we_int ?_) | ((with_reducible show WE _ (Expr.Constant (Const.str _) _ _) _ _); refine we_str ?_) | ((with_reducible show WE _ (Expr.Constant (Const.bool true) _ _) _ _); refine we_true ?_) | ((with_reducible show WE _ (Expr.Constant (Const.bool false) _ _) _ _); refine we_false ?_) | ((with_reducible show WE _ (Expr.Constant Const.none _ _) _ _); refine we_none ?_) | ((with_reducible show WE _ (Expr.BinOp _ Operator.Add _ _) _ _); refine we_plus ?_) | ((with_reducible show WE _ (Expr.BinOp _ Operator.Sub _ _) _ _); refine we_minus ?_) | ((with_reducible show WE _ (Expr.BinOp _ Operator.Mult _ _) _ _); refine we_times ?_) | ((with_reducible show WE _ (Expr.BinOp _ Operator.FloorDiv _ _) _ _); refine we_fdiv ?_) | ((with_reducible show WE _ (Expr.BinOp _ Operator.Mod _ _) _ _); refine we_mod ?_) | ((with_reducible show WE _ (Expr.BinOp _ Operator.Pow _ _) _ _); refine we_pow ?_) | ((with_reducible show WE _ (Expr.UnaryOp UnaryOp.USub _ _) _ _); refine we_neg ?_) | ((with_reducible show WE _ (Expr.UnaryOp UnaryOp.Not _ _) _ _); refine we_not ?_) | ((with_reducible show WE _ (Expr.Compare _ [_] [_] _) _ _); refine we_cmp ?_) | ((with_reducible show WE _ (Expr.Compare _ [_, _] [_, _] _) _ _); refine we_chain ?_) | ((with_reducible show WE _ (Expr.BoolOp BoolOp.And (_ :: _ :: _) _) _ _); refine we_and ?_) | ((with_reducible show WE _ (Expr.BoolOp BoolOp.Or (_ :: _ :: _) _) _ _); refine we_or ?_) | ((with_reducible show WE _ (Expr.BoolOp _ [_] _) _ _); refine we_one ?_) | ((with_reducible show WE _ (Expr.IfExp _ _ _ _) _ _); refine we_ifExp ?_) | ((with_reducible show WE _ (Expr.Subscript _ (Expr.Slice _ _ _ _) _) _ _); refine we_slice ?_) | ((with_reducible show WE _ (Expr.Subscript _ _ _) _ _); refine we_ix ?_) | ((with_reducible show WE _ (Expr.List _ _) _ _); refine we_list ?_) | ((with_reducible show WE _ (Expr.Tuple _ _ _) _ _); refine we_tuple ?_) | ((with_reducible show WE _ (Expr.Dict [] [] _) _ _); refine we_dict0 ?_) | ((with_reducible show WE _ (Expr.Dict [_] [_] _) _ _); refine we_dict1 ?_) | ((with_reducible show WE _ (Expr.Call (Expr.Name "len" _) [_] _ _) _ _); refine we_len ?_ (by with_reducible assumption)) | ((with_reducible show WE _ (Expr.Call (Expr.Name "sum" _) [_] _ _) _ _); refine we_sum ?_ (by with_reducible assumption)) | ((with_reducible show WE _ (Expr.Call (Expr.Name "max" _) [_] _ _) _ _); refine we_max ?_ (by with_reducible assumption)) | ((with_reducible show WE _ (Expr.Call (Expr.Name "min" _) [_] _ _) _ _); refine we_min ?_ (by with_reducible assumption)) | ((with_reducible show WE _ (Expr.Call (Expr.Name "max" _) [_, _] _ _) _ _); refine we_max2 ?_ (by with_reducible assumption)) | ((with_reducible show WE _ (Expr.Call (Expr.Name "min" _) [_, _] _ _) _ _); refine we_min2 ?_ (by with_reducible assumption)) | ((with_reducible show WE _ (Expr.Call (Expr.Name "int" _) [_] _ _) _ _); refine we_toInt ?_ (by with_reducible assumption)) | ((with_reducible show WE _ (Expr.Call (Expr.Name "tuple" _) [_] _ _) _ _); refine we_toTup ?_ (by with_reducible assumption)) | ((with_reducible show WE _ (Expr.Call (Expr.Name "list" _) [_] _ _) _ _); refine we_toLis ?_ (by with_reducible assumption)) | ((with_reducible show WE _ (Expr.Call (Expr.Name "all" _) [_] _ _) _ _); refine we_all ?_ (by with_reducible assumption)) | ((with_reducible show WE _ (Expr.Call (Expr.Name "any" _) [_] _ _) _ _); refine we_any ?_ (by with_reducible assumption)) | ((with_reducible show WE _ (Expr.Call (Expr.Name "repr" _) [_] _ _) _ _); refine we_repr ?_ (by with_reducible assumption)) | ((with_reducible show WE _ (Expr.Call (Expr.Name "isinstance" _) [_, Expr.Name "int" _] _ _) _ _); refine we_isi (n := "int") ?_ PyProof.Rows.boot_int (by with_reducible assumption) (by with_reducible assumption)) | ((with_reducible show WE _ (Expr.Call (Expr.Name "isinstance" _) [_, Expr.Name "bool" _] _ _) _ _); refine we_isi (n := "bool") ?_ PyProof.Rows.boot_bool (by with_reducible assumption) (by with_reducible assumption)) | ((with_reducible show WE _ (Expr.Call (Expr.Name "isinstance" _) [_, Expr.Tuple _ _ _] _ _) _ _); refine we_isi2 (n := "list") (n' := "tuple") ?_ PyProof.Rows.boot_list PyProof.Rows.boot_tuple (by with_reducible assumption) (by with_reducible assumption) (by with_reducible assumption)) | ((with_reducible show WE _ (Expr.Name _ _) _ _); walk_at "nm") | ((with_reducible show WE _ (Expr.Call (Expr.Name _ _) _ _ _) _ _); walk_at "fn"))
local macro_rules | `(tactic| walk_at "o") => `(tactic| first | ((with_reducible show WO _ (Expr.Name _ _) _ _); walk_at "no") | refine WO.of ?_)
local macro_rules | `(tactic| walk_at "t") => `(tactic| first | ((with_reducible show WT _ (Expr.Compare _ [_] [_] _) _ _); refine wt_cmp ?_) | ((with_reducible show WT _ (Expr.UnaryOp UnaryOp.Not _ _) _ _); refine wt_not ?_) | ((with_reducible show WT _ (Expr.BoolOp _ _ _) _ _); refine wt_bool ?_) | refine wt_val ?_)
local macro_rules | `(tactic| walk_at "w") => `(tactic| first | ((with_reducible show WW _ (Expr.BoolOp BoolOp.And (_ :: _ :: _) _) _ _); refine ww_and ?_) | ((with_reducible show WW _ (Expr.BoolOp BoolOp.Or (_ :: _ :: _) _) _ _); refine ww_or ?_) | ((with_reducible show WW _ (Expr.BoolOp BoolOp.And _ _) _ _); refine ww_and1 ?_) | ((with_reducible show WW _ (Expr.BoolOp BoolOp.Or _ _) _ _); refine ww_or1 ?_))
local macro_rules | `(tactic| walk_at "g") => `(tactic| first | ((with_reducible show WG _ [] _ _); refine wg_nil ?_) | ((with_reducible show WG _ (Expr.Name _ _ :: _) _ _); walk_at "rel") | refine wg_dat ?_)
local macro_rules | `(tactic| walk_at "d") => `(tactic| first | ((with_reducible show WD _ [] _ _); refine wd_nil ?_) | refine wd_cons ?_)
local macro_rules | `(tactic| walk_at "p") => `(tactic| first | ((with_reducible show WPa _ none _ _); refine wp_none ?_) | refine wp_some ?_)
local macro_rules | `(tactic| walk_at "1") => `(tactic| first | ((with_reducible show W1 _ (Stmt.If _ _ _ _) _ _); refine w1_if ?_) | ((with_reducible show W1 _ (Stmt.Return (some _) _) _ _); refine w1_ret ?_) | ((with_reducible show W1 _ (Stmt.Return none _) _ _); refine w1_retN ?_) | ((with_reducible show W1 _ (Stmt.Expr _ _) _ _); walk_at "app") | ((with_reducible show W1 _ (Stmt.Assign [Expr.Subscript _ _ _] _ _) _ _); walk_at "sto") | ((with_reducible show W1 _ (Stmt.Assign [Expr.Name _ _] _ _) _ _); walk_at "set"))
local macro_rules | `(tactic| walk_at "S") => `(tactic| first | ((with_reducible show WS _ [] _ _); refine ws_nil ?_) | refine ws_cons ?_)
local macro_rules | `(tactic| walk_at "lf") => `(tactic| first | refine ⟨_, rfl, ?_⟩ | refine ⟨fun _ => ?_, fun _ => ?_⟩)
local macro_rules | `(tactic| walk_at "cl") => `(tactic| dsimp only [PlusD, MinusD, TimesD, FdivD, ModD, PowD, CmpD, LenD, IxD, SliD, TruD, IntD, TupD, LisD, Max2D, Min2D, thenR, endR])
local macro_rules | `(tactic| walk_at "s") => `(tactic| first | ((with_reducible show WS _ _ _ _); walk_at "S") | ((with_reducible show W1 _ _ _ _); walk_at "1") | ((with_reducible show WE _ _ _ _); walk_at "e") | ((with_reducible show WO _ _ _ _); walk_at "o") | ((with_reducible show WT _ _ _ _); walk_at "t") | ((with_reducible show WW _ _ _ _); walk_at "w") | ((with_reducible show WG _ _ _ _); walk_at "g") | ((with_reducible show WD _ _ _ _); walk_at "d") | ((with_reducible show WPa _ _ _ _); walk_at "p") | ((with_reducible show List.length _ ≤ sizeLine ∧ _); refine ⟨Nat.le_trans (by simp : _ ≤ 100) (by decide), ?_⟩) | ((with_reducible show SeqAt.shaped _ = true ∧ _); refine ⟨by first | rfl | exact shaped_ints _ | assumption, ?_⟩) | ((with_reducible show (0 : Int) < _ ∧ _ < _ ∧ ∀ v : Int, _); refine ⟨by first | omega | decide, by first | exact lt8000 (by omega) | assumption, fun _ _ _ => ?_⟩) | ((with_reducible show (0 : Int) < _ ∧ _); refine ⟨by first | omega | decide, ?_⟩) | ((with_reducible show CPow _ _ ∧ _); refine ⟨⟨by decide, by decide, by decide⟩, ?_⟩) | ((with_reducible show thenR _ _ _ (Out.nx _)); show WS _ _ _ _) | walk_at "cl" | walk_at "lf")
local macro_rules | `(tactic| walk_at "q") => `(tactic| first | ((with_reducible show WE _ _ _ _); walk_at "e") | ((with_reducible show WO _ _ _ _); walk_at "o") | ((with_reducible show WT _ _ _ _); walk_at "t") | ((with_reducible show WW _ _ _ _); walk_at "w") | ((with_reducible show WG _ _ _ _); walk_at "g") | ((with_reducible show WD _ _ _ _); walk_at "d") | ((with_reducible show WPa _ _ _ _); walk_at "p") | ((with_reducible show List.length _ ≤ sizeLine ∧ _); refine ⟨Nat.le_trans (by simp : _ ≤ 100) (by decide), ?_⟩) | ((with_reducible show SeqAt.shaped _ = true ∧ _); refine ⟨by first | rfl | exact shaped_ints _ | assumption, ?_⟩) | ((with_reducible show (0 : Int) < _ ∧ _ < _ ∧ ∀ v : Int, _); refine ⟨by first | omega | decide, by first | exact lt8000 (by omega) | assumption, fun _ _ _ => ?_⟩) | ((with_reducible show (0 : Int) < _ ∧ _); refine ⟨by first | omega | decide, ?_⟩) | ((with_reducible show CPow _ _ ∧ _); refine ⟨⟨by decide, by decide, by decide⟩, ?_⟩) | walk_at "cl" | walk_at "lf")
theorem pop_perm : ∀ {l : List Nat} {k : Nat} {x : Nat}, l[k]? = some x → (x :: l.eraseIdx k).Perm l
  | [], _, _, h => by simp at h
  | a :: l, 0, x, h => by
    have h : a = x := by simpa using h
    subst h
    exact List.Perm.refl _
  | a :: l, k + 1, x, h => by
    rw [List.eraseIdx_cons_succ]
    exact (List.Perm.swap a x _).trans ((pop_perm (l := l) (k := k) (by simpa using h)).cons a)
theorem names_perm {r : Nat} {ns : List Nat} (h : ns.Perm (List.range r)) : Names r ns := by
  refine ⟨by rw [h.length_eq, List.length_range], fun n hn => List.mem_range.mp (h.mem_iff.mp hn), fun i j n h1 h2 => ?_⟩
  have nd : ns.Nodup := h.nodup_iff.mpr List.nodup_range
  exact (List.getElem?_inj (List.getElem?_eq_some_iff.mp h1).1 nd).mp (by rw [h1, h2])
theorem erase_natD : ∀ (l : List Nat) (k : Nat), (l.map natD).eraseIdx k = (l.eraseIdx k).map natD
  | [], _ => rfl
  | _ :: _, 0 => rfl
  | a :: l, k + 1 => by rw [List.map_cons, List.eraseIdx_cons_succ, List.eraseIdx_cons_succ, List.map_cons, erase_natD l k]
def wShf : WpO := fun as Q => ∃ r : Nat, as = [.rel, .dat (.list (upTo r))] ∧ 1 ≤ r ∧ r ≤ 200 ∧ ∀ ns : List Nat, Names r ns → Q (ns.map natD)
section
variable {P : Program} {w : World} {K : PySem.W.Frag} {mg : Str → Option Value} {base : Heap}
local macro_rules | `(tactic| walk_at "nm") => `(tactic| first | ((with_reducible show WE _ (Expr.Name "reel" _) _ _); refine we_name 0 rfl (by walk_at "vis") rfl ?_) | ((with_reducible show WE _ (Expr.Name "values" _) _ _); refine we_name 1 rfl (by walk_at "vis") rfl ?_) | ((with_reducible show WE _ (Expr.Name "left" _) _ _); refine we_name 2 rfl (by walk_at "vis") rfl ?_) | ((with_reducible show WE _ (Expr.Name "value" _) _ _); refine we_name 3 rfl (by walk_at "vis") rfl ?_))
local macro_rules | `(tactic| walk_at "no") => `(tactic| first | ((with_reducible show WO _ (Expr.Name "reel" _) _ _); refine wo_own 0 rfl (by walk_at "vis") rfl ?_) | ((with_reducible show WO _ (Expr.Name "values" _) _ _); refine wo_own 1 rfl (by walk_at "vis") rfl ?_) | ((with_reducible show WO _ (Expr.Name "left" _) _ _); refine wo_own 2 rfl (by walk_at "vis") rfl ?_) | ((with_reducible show WO _ (Expr.Name "value" _) _ _); refine wo_own 3 rfl (by walk_at "vis") rfl ?_))
local macro_rules | `(tactic| walk_at "rel") => `(tactic| first | ((with_reducible show WG _ (Expr.Name "reel" _ :: _) _ _); refine wg_rel 0 rfl (by walk_at "vis") rfl ?_) | ((with_reducible show WG _ (Expr.Name "values" _ :: _) _ _); refine wg_rel 1 rfl (by walk_at "vis") rfl ?_) | ((with_reducible show WG _ (Expr.Name "left" _ :: _) _ _); refine wg_rel 2 rfl (by walk_at "vis") rfl ?_) | ((with_reducible show WG _ (Expr.Name "value" _ :: _) _ _); refine wg_rel 3 rfl (by walk_at "vis") rfl ?_))
local macro_rules | `(tactic| walk_at "set") => `(tactic| first | ((with_reducible show W1 _ (Stmt.Assign [Expr.Name "reel" _] _ _) _ _); refine w1_set 0 ?_ rfl (by walk_at "loc") (Or.inl rfl)) | ((with_reducible show W1 _ (Stmt.Assign [Expr.Name "values" _] _ _) _ _); refine w1_set 1 ?_ rfl (by walk_at "loc") (Or.inl rfl)) | ((with_reducible show W1 _ (Stmt.Assign [Expr.Name "left" _] _ _) _ _); refine w1_set 2 ?_ rfl (by walk_at "loc") (Or.inl rfl)) | ((with_reducible show W1 _ (Stmt.Assign [Expr.Name "value" _] _ _) _ _); refine w1_set 3 ?_ rfl (by walk_at "loc") (Or.inl rfl)))
local macro_rules | `(tactic| walk_at "app") => `(tactic| first | ((with_reducible show W1 _ (Stmt.Expr (Expr.Call (Expr.Attribute (Expr.Name "reel" _) _ _) _ _ _) _) _ _); refine w1_append 0 rfl ?_ rfl (by walk_at "vis")) | ((with_reducible show W1 _ (Stmt.Expr (Expr.Call (Expr.Attribute (Expr.Name "values" _) _ _) _ _ _) _) _ _); refine w1_append 1 rfl ?_ rfl (by walk_at "vis")) | ((with_reducible show W1 _ (Stmt.Expr (Expr.Call (Expr.Attribute (Expr.Name "left" _) _ _) _ _ _) _) _ _); refine w1_append 2 rfl ?_ rfl (by walk_at "vis")) | ((with_reducible show W1 _ (Stmt.Expr (Expr.Call (Expr.Attribute (Expr.Name "value" _) _ _) _ _ _) _) _ _); refine w1_append 3 rfl ?_ rfl (by walk_at "vis")))
local macro_rules | `(tactic| walk_at "sto") => `(tactic| first | ((with_reducible show W1 _ (Stmt.Assign [Expr.Subscript (Expr.Name "reel" _) _ _] _ _) _ _); refine w1_store 0 rfl ?_ rfl (by walk_at "vis")) | ((with_reducible show W1 _ (Stmt.Assign [Expr.Subscript (Expr.Name "values" _) _ _] _ _) _ _); refine w1_store 1 rfl ?_ rfl (by walk_at "vis")) | ((with_reducible show W1 _ (Stmt.Assign [Expr.Subscript (Expr.Name "left" _) _ _] _ _) _ _); refine w1_store 2 rfl ?_ rfl (by walk_at "vis")) | ((with_reducible show W1 _ (Stmt.Assign [Expr.Subscript (Expr.Name "value" _) _ _] _ _) _ _); refine w1_store 3 rfl ?_ rfl (by walk_at "vis")))
local macro_rules | `(tactic| walk_at "tg") => `(tactic| first | ((with_reducible show WTg _ (Expr.Name "reel" _) _ _ _ _); refine wtg_name 0 rfl (by walk_at "loc") (by walk_at "loc") ?_) | ((with_reducible show WTg _ (Expr.Name "values" _) _ _ _ _); refine wtg_name 1 rfl (by walk_at "loc") (by walk_at "loc") ?_) | ((with_reducible show WTg _ (Expr.Name "left" _) _ _ _ _); refine wtg_name 2 rfl (by walk_at "loc") (by walk_at "loc") ?_) | ((with_reducible show WTg _ (Expr.Name "value" _) _ _ _ _); refine wtg_name 3 rfl (by walk_at "loc") (by walk_at "loc") ?_))

local macro_rules | `(tactic| walk_at "fn") => `(tactic| first | ((with_reducible show WE _ (Expr.Call (Expr.Name "_law_draw" _) _ _ _) _ _); refine we_call (by with_reducible assumption) (by dsimp only; omega) ?_))

theorem ws_shf {k : Nat} (hk : 1 ≤ k) (B : Bl mg) (hDr : Has P w K mg base "_law_draw" 1 wDraw) (as : List SV) (Q : List PyData → Prop) (h : wShf as Q) :
    WS ⟨P, w, K, mg, base, ["reel", "values", "left", "value"], defScope sLawShuffled, fun _ => true, k⟩ (defBody sLawShuffled) (startR ["reel", "values", "left", "value"] as) (endO Q) := by
  obtain ⟨mi, mn, mb, mls, mt, ml, ma, mr, mre, mmi, mma, ms⟩ := B
  obtain ⟨r, rfl, r1, r2, q⟩ := h
  walk_at "S"
  refine w1_setO 2 (wf_toLis ?_ mls) rfl (by walk_at "loc") (Or.inl rfl)
  walk_at "o"
  walk_at "nm"
  refine ⟨upTo r, .inl rfl, ?_⟩
  show WS _ _ _ _
  walk_at "S"
  refine w1_retLcX [("value", 3)] [3] (wi_list ?_)
  walk_at "nm"
  refine ⟨upTo r, rfl, by rw [upTo_len]; omega, fun i ρ' acc => ∃ left taken : List Nat, taken.length = i ∧ (taken ++ left).Perm (List.range r) ∧ acc = taken.map natD ∧ ρ' = [some .rel, some (.dat (.list (upTo r))), some (.own (left.map natD)), none],
    ⟨List.range r, [], rfl, List.Perm.refl _, rfl, rfl⟩, fun i d ρ' acc hd hJ => ?_, fun ρ' acc hJ hl => ?_⟩
  · obtain ⟨left, taken, ht, hp, rfl, rfl⟩ := hJ
    have hi : i < r := by
      have := (List.getElem?_eq_some_iff.mp hd).1
      rwa [upTo_len] at this
    have hll : left.length = r - i := by
      have := hp.length_eq
      rw [List.length_append, List.length_range, ht] at this
      omega
    have hpos : 0 < ((left.map natD).length : Int) := by rw [List.length_map]; omega
    have hle : ((left.map natD).length : Int) ≤ 200 := by rw [List.length_map]; omega
    refine ⟨rfl, ?_⟩
    walk_at "tg"
    refine wx_popAt 2 rfl ?_ rfl (by walk_at "vis")
    repeat walk_at "q"
    rename_i x x0 x1
    rw [List.length_map] at x1
    obtain ⟨x, rfl⟩ : ∃ n : Nat, x = (n : Int) := ⟨x.toNat, by omega⟩
    have hx : left[x]? = some left[x] := List.getElem?_eq_getElem (by omega)
    refine ⟨x, natD left[x], rfl, by rw [List.length_map]; omega, by rw [List.getElem?_map, hx]; rfl, ?_⟩
    refine ⟨left.eraseIdx x, taken ++ [left[x]], by rw [List.length_append, ht]; rfl, ?_, by rw [List.map_append]; rfl, ?_⟩
    · rw [List.append_assoc]
      exact ((pop_perm hx).append_left taken).trans hp
    · have e : (left.map natD).eraseIdx x = (left.eraseIdx x).map natD := erase_natD left x
      rw [e]
      rfl
  · obtain ⟨left, taken, ht, hp, rfl, rfl⟩ := hJ
    rw [upTo_len] at ht
    have hll : left = [] := by
      have := hp.length_eq
      rw [List.length_append, List.length_range, ht] at this
      exact List.length_eq_zero_iff.mp (by omega)
    rw [hll, List.append_nil] at hp
    exact q taken (names_perm hp)
end


end Tee

namespace Tee
open PySem PySem.Spec PyProof.Rows L2
local macro_rules | `(tactic| walk_at "vis") => `(tactic| first | exact Or.inl rfl | exact Or.inr (Or.inl rfl) | exact Or.inr (Or.inr rfl))
local macro_rules | `(tactic| walk_at "loc") => `(tactic| first | exact Or.inl rfl | exact Or.inr rfl)
local macro_rules | `(tactic| walk_at "e") => `(tactic| first | ((with_reducible show WE _ (Expr.Call (Expr.Name "len" _) [Expr.Name "script" _] _ _) _ _); refine we_lenScr 0 rfl (by walk_at "vis") rfl ?_ (by with_reducible assumption)) | ((with_reducible show WE _ (Expr.Constant (Const.int _) _ _) _ _); refine we_int ?_) | ((with_reducible show WE _ (Expr.Constant (Const.str _) _ _) _ _); refine we_str ?_) | ((with_reducible show WE _ (Expr.Constant (Const.bool true) _ _) _ _); refine we_true ?_) | ((with_reducible show WE _ (Expr.Constant (Const.bool false) _ _) _ _); refine we_false ?_) | ((with_reducible show WE _ (Expr.Constant Const.none _ _) _ _); refine we_none ?_) | ((with_reducible show WE _ (Expr.BinOp _ Operator.Add _ _) _ _); refine we_plus ?_) | ((with_reducible show WE _ (Expr.BinOp _ Operator.Sub _ _) _ _); refine we_minus ?_) | ((with_reducible show WE _ (Expr.BinOp _ Operator.Mult _ _) _ _); refine we_times ?_) | ((with_reducible show WE _ (Expr.BinOp _ Operator.FloorDiv _ _) _ _); refine we_fdiv ?_) | ((with_reducible show WE _ (Expr.BinOp _ Operator.Mod _ _) _ _); refine we_mod ?_) | ((with_reducible show WE _ (Expr.BinOp _ Operator.Pow _ _) _ _); refine we_pow ?_) | ((with_reducible show WE _ (Expr.UnaryOp UnaryOp.USub _ _) _ _); refine we_neg ?_) | ((with_reducible show WE _ (Expr.UnaryOp UnaryOp.Not _ _) _ _); refine we_not ?_) | ((with_reducible show WE _ (Expr.Compare _ [_] [_] _) _ _); refine we_cmp ?_) | ((with_reducible show WE _ (Expr.Compare _ [_, _] [_, _] _) _ _); refine we_chain ?_) | ((with_reducible show WE _ (Expr.BoolOp BoolOp.And (_ :: _ :: _) _) _ _); refine we_and ?_) | ((with_reducible show WE _ (Expr.BoolOp BoolOp.Or (_ :: _ :: _) _) _ _); refine we_or ?_) | ((with_reducible show WE _ (Expr.BoolOp _ [_] _) _ _); refine we_one ?_) | ((with_reducible show WE _ (Expr.IfExp _ _ _ _) _ _); refine we_ifExp ?_) | ((with_reducible show WE _ (Expr.Subscript _ (Expr.Slice _ _ _ _) _) _ _); refine we_slice ?_) | ((with_reducible show WE _ (Expr.Subscript _ _ _) _ _); refine we_ix ?_) | ((with_reducible show WE _ (Expr.List _ _) _ _); refine we_list ?_) | ((with_reducible show WE _ (Expr.Tuple _ _ _) _ _); refine we_tuple ?_) | ((with_reducible show WE _ (Expr.Dict [] [] _) _ _); refine we_dict0 ?_) | ((with_reducible show WE _ (Expr.Dict [_] [_] _) _ _); refine we_dict1 ?_) | ((with_reducible show WE _ (Expr.Call (Expr.Name "len" _) [_] _ _) _ _); refine we_len ?_ (by with_reducible assumption)) | ((with_reducible show WE _ (Expr.Call (Expr.Name "sum" _) [_] _ _) _ _); refine we_sum ?_ (by with_reducible assumption)) | ((with_reducible show WE _ (Expr.Call (Expr.Name "max" _) [_] _ _) _ _); refine we_max ?_ (by with_reducible assumption)) | ((with_reducible show WE _ (Expr.Call (Expr.Name "min" _) [_] _ _) _ _); refine we_min ?_ (by with_reducible assumption)) | ((with_reducible show WE _ (Expr.Call (Expr.Name "max" _) [_, _] _ _) _ _); refine we_max2 ?_ (by with_reducible assumption)) | ((with_reducible show WE _ (Expr.Call (Expr.Name "min" _) [_, _] _ _) _ _); refine we_min2 ?_ (by with_reducible assumption)) | ((with_reducible show WE _ (Expr.Call (Expr.Name "int" _) [_] _ _) _ _); refine we_toInt ?_ (by with_reducible assumption)) | ((with_reducible show WE _ (Expr.Call (Expr.Name "tuple" _) [_] _ _) _ _); refine we_toTup ?_ (by with_reducible assumption)) | ((with_reducible show WE _ (Expr.Call (Expr.Name "list" _) [_] _ _) _ _); refine we_toLis ?_ (by with_reducible assumption)) | ((with_reducible show WE _ (Expr.Call (Expr.Name "all" _) [_] _ _) _ _); refine we_all ?_ (by with_reducible assumption)) | ((with_reducible show WE _ (Expr.Call (Expr.Name "any" _) [_] _ _) _ _); refine we_any ?_ (by with_reducible assumption)) | ((with_reducible show WE _ (Expr.Call (Expr.Name "repr" _) [_] _ _) _ _); refine we_repr ?_ (by with_reducible assumption)) | ((with_reducible show WE _ (Expr.Call (Expr.Name "isinstance" _) [_, Expr.Name "int" _] _ _) _ _); refine we_isi (n := "int") ?_ PyProof.Rows.boot_int (by with_reducible assumption) (by with_reducible assumption)) | ((with_reducible show WE _ (Expr.Call (Expr.Name "isinstance" _) [_, Expr.Name "bool" _] _ _) _ _); refine we_isi (n := "bool") ?_ PyProof.Rows.boot_bool (by with_reducible assumption) (by with_reducible assumption)) | ((with_reducible show WE _ (Expr.Call (Expr.Name "isinstance" _) [_, Expr.Tuple _ _ _] _ _) _ _); refine we_isi2 (n := "list") (n' := "tuple") ?_ PyProof.Rows.boot_list PyProof.Rows.boot_tuple (by with_reducible assumption) (by with_reducible assumption) (by with_reducible assumption)) | ((with_reducible show WE _ (Expr.Name _ _) _ _); walk_at "nm") | ((with_reducible show WE _ (Expr.Call (Expr.Name _ _) _ _ _) _ _); walk_at "fn"))
local macro_rules | `(tactic| walk_at "o") => `(tactic| first | ((with_reducible show WO _ (Expr.Name _ _) _ _); walk_at "no") | refine WO.of ?_)
local macro_rules | `(tactic| walk_at "t") => `(tactic| first | ((with_reducible show WT _ (Expr.Compare _ [_] [_] _) _ _); refine wt_cmp ?_) | ((with_reducible show WT _ (Expr.UnaryOp UnaryOp.Not _ _) _ _); refine wt_not ?_) | ((with_reducible show WT _ (Expr.BoolOp _ _ _) _ _); refine wt_bool ?_) | refine wt_val ?_)
local macro_rules | `(tactic| walk_at "w") => `(tactic| first | ((with_reducible show WW _ (Expr.BoolOp BoolOp.And (_ :: _ :: _) _) _ _); refine ww_and ?_) | ((with_reducible show WW _ (Expr.BoolOp BoolOp.Or (_ :: _ :: _) _) _ _); refine ww_or ?_) | ((with_reducible show WW _ (Expr.BoolOp BoolOp.And _ _) _ _); refine ww_and1 ?_) | ((with_reducible show WW _ (Expr.BoolOp BoolOp.Or _ _) _ _); refine ww_or1 ?_))
local macro_rules | `(tactic| walk_at "g") => `(tactic| first | ((with_reducible show WG _ [] _ _); refine wg_nil ?_) | ((with_reducible show WG _ (Expr.Name _ _ :: _) _ _); walk_at "rel") | refine wg_dat ?_)
local macro_rules | `(tactic| walk_at "d") => `(tactic| first | ((with_reducible show WD _ [] _ _); refine wd_nil ?_) | refine wd_cons ?_)
local macro_rules | `(tactic| walk_at "p") => `(tactic| first | ((with_reducible show WPa _ none _ _); refine wp_none ?_) | refine wp_some ?_)
local macro_rules | `(tactic| walk_at "1") => `(tactic| first | ((with_reducible show W1 _ (Stmt.If _ _ _ _) _ _); refine w1_if ?_) | ((with_reducible show W1 _ (Stmt.Return (some _) _) _ _); refine w1_ret ?_) | ((with_reducible show W1 _ (Stmt.Return none _) _ _); refine w1_retN ?_) | ((with_reducible show W1 _ (Stmt.Expr _ _) _ _); walk_at "app") | ((with_reducible show W1 _ (Stmt.Assign [Expr.Subscript _ _ _] _ _) _ _); walk_at "sto") | ((with_reducible show W1 _ (Stmt.Assign [Expr.Name _ _] _ _) _ _); walk_at "set"))
local macro_rules | `(tactic| walk_at "S") => `(tactic| first | ((with_reducible show WS _ [] _ _); refine ws_nil ?_) | refine ws_cons ?_)
local macro_rules | `(tactic| walk_at "lf") => `(tactic| first | refine ⟨_, rfl, ?_⟩ | refine ⟨fun _ => ?_, fun _ => ?_⟩)
local macro_rules | `(tactic| walk_at "cl") => `(tactic| dsimp only [PlusD, MinusD, TimesD, FdivD, ModD, PowD, CmpD, LenD, IxD, SliD, TruD, IntD, TupD, LisD, Max2D, Min2D, thenR, endR])
local macro_rules | `(tactic| walk_at "s") => `(tactic| first | ((with_reducible show WS _ _ _ _); walk_at "S") | ((with_reducible show W1 _ _ _ _); walk_at "1") | ((with_reducible show WE _ _ _ _); walk_at "e") | ((with_reducible show WO _ _ _ _); walk_at "o") | ((with_reducible show WT _ _ _ _); walk_at "t") | ((with_reducible show WW _ _ _ _); walk_at "w") | ((with_reducible show WG _ _ _ _); walk_at "g") | ((with_reducible show WD _ _ _ _); walk_at "d") | ((with_reducible show WPa _ _ _ _); walk_at "p") | ((with_reducible show List.length _ ≤ sizeLine ∧ _); refine ⟨Nat.le_trans (by simp : _ ≤ 100) (by decide), ?_⟩) | ((with_reducible show SeqAt.shaped _ = true ∧ _); refine ⟨by first | rfl | exact shaped_ints _ | assumption, ?_⟩) | ((with_reducible show (0 : Int) < _ ∧ _ < _ ∧ ∀ v : Int, _); refine ⟨by first | omega | decide, by first | exact lt8000 (by omega) | assumption, fun _ _ _ => ?_⟩) | ((with_reducible show (0 : Int) < _ ∧ _); refine ⟨by first | omega | decide, ?_⟩) | ((with_reducible show CPow _ _ ∧ _); refine ⟨⟨by decide, by decide, by decide⟩, ?_⟩) | ((with_reducible show thenR _ _ _ (Out.nx _)); show WS _ _ _ _) | walk_at "cl" | walk_at "lf")
local macro_rules | `(tactic| walk_at "q") => `(tactic| first | ((with_reducible show WE _ _ _ _); walk_at "e") | ((with_reducible show WO _ _ _ _); walk_at "o") | ((with_reducible show WT _ _ _ _); walk_at "t") | ((with_reducible show WW _ _ _ _); walk_at "w") | ((with_reducible show WG _ _ _ _); walk_at "g") | ((with_reducible show WD _ _ _ _); walk_at "d") | ((with_reducible show WPa _ _ _ _); walk_at "p") | ((with_reducible show List.length _ ≤ sizeLine ∧ _); refine ⟨Nat.le_trans (by simp : _ ≤ 100) (by decide), ?_⟩) | ((with_reducible show SeqAt.shaped _ = true ∧ _); refine ⟨by first | rfl | exact shaped_ints _ | assumption, ?_⟩) | ((with_reducible show (0 : Int) < _ ∧ _ < _ ∧ ∀ v : Int, _); refine ⟨by first | omega | decide, by first | exact lt8000 (by omega) | assumption, fun _ _ _ => ?_⟩) | ((with_reducible show (0 : Int) < _ ∧ _); refine ⟨by first | omega | decide, ?_⟩) | ((with_reducible show CPow _ _ ∧ _); refine ⟨⟨by decide, by decide, by decide⟩, ?_⟩) | walk_at "cl" | walk_at "lf")
theorem ranksB_seq {r : Nat} {d : PyData} {ks : List Nat} (h : IsSeq d (ks.map natD)) (hk : ∀ k ∈ ks, k < r) : ranksB (r : Int) d = (decide (ks.length ≤ 400) && okB (List.replicate r 0) ks) := by
  unfold ranksB
  rw [nats_seq h, Int.toNat_natCast]
  by_cases hl : ks.length ≤ 400
  · rw [hist_seq h hl hk, decide_eq_true hl]
  · have e : histB (r : Int) d = false := by
      show (seqLe d 400 && _) = false
      have : seqLe d 400 = false := by rcases h with rfl | rfl <;> exact decide_eq_false (by rw [List.length_map]; omega)
      rw [this, Bool.false_and]
    rw [e, decide_eq_false hl, Bool.false_and]
theorem shaped_nats (ks : List Nat) : SeqAt.shaped (.list (ks.map natD)) = true := by rw [natD_map]; exact shaped_ints _
theorem eqv_nats (ks : List Nat) : PyData.eqv (.list (ks.map natD)) (.list (ks.map natD)) = true := SeqAt.eqv_refl _ (shaped_lay (shaped_nats ks))
theorem eqv_ints (cs : List Int) : PyData.eqv (.list (cs.map .int)) (.list (cs.map .int)) = true := SeqAt.eqv_refl _ (shaped_lay (shaped_ints cs))
theorem cut_headN (xs : List PyData) {n : Nat} (h : n ≤ xs.length) : cutD xs none (some (n : Int)) = xs.take n := by
  unfold cutD
  rw [HT.sIx_none, HT.sIx_nat, List.drop_zero, Nat.sub_zero, Nat.min_eq_left h]
theorem ranks_lt {r : Nat} {ks : List Nat} {c : List Int} (hc : c.length = r) (ok : OkFrom c ks) : ∀ k ∈ ks, k < r := by
  intro k hk
  obtain ⟨i, hi⟩ := List.getElem?_of_mem hk
  have := (ok.at hi).1
  omega
theorem last_int {cs : List Int} {c : Int} : atI ((cs ++ [c]).map PyData.int) (-1) = some (.int c) := by
  have hln : ((cs ++ [c]).map PyData.int).length = cs.length + 1 := by simp
  unfold atI ixN
  rw [hln, if_neg (by decide), if_pos (by omega)]
  show ((cs ++ [c]).map PyData.int)[(-1 + ((cs.length + 1 : Nat) : Int)).toNat]? = _
  rw [show (-1 + ((cs.length + 1 : Nat) : Int)).toNat = cs.length by omega]
  simp
theorem chg_sub {r k : Nat} (h : k < r) : ((if ((k : Int) == 0) = true then 1 else 0) - (if ((k : Int) == (r : Int) - 1) = true then 1 else 0) : Int) = chg r k := by
  unfold chg
  simp only [beq_iff_eq]
  repeat' split
  all_goals omega
theorem last_size {r : Nat} (r1 : 1 ≤ r) (hs : List Nat) : ∃ t, (0 : Int) :: sizesFrom (List.replicate r 0) hs = t ++ [spread (bumps (List.replicate r 0) hs)] := by
  rcases snoc_cases hs with rfl | ⟨t, a, rfl⟩
  · exact ⟨[], by show [(0:Int)] = [spread (List.replicate r 0)]; rw [spread_zero r r1]⟩
  · exact ⟨0 :: sizesFrom (List.replicate r 0) t, by rw [sizesFrom_snoc, bumps_snoc]; rfl⟩
section
variable {P : Program} {w : World} {K : PySem.W.Frag} {mg : Str → Option Value} {base : Heap}
local macro_rules | `(tactic| walk_at "nm") => `(tactic| first | ((with_reducible show WE _ (Expr.Name "script" _) _ _); refine we_name 0 rfl (by walk_at "vis") rfl ?_) | ((with_reducible show WE _ (Expr.Name "reel" _) _ _); refine we_name 1 rfl (by walk_at "vis") rfl ?_) | ((with_reducible show WE _ (Expr.Name "k" _) _ _); refine we_name 2 rfl (by walk_at "vis") rfl ?_) | ((with_reducible show WE _ (Expr.Name "readers" _) _ _); refine we_name 3 rfl (by walk_at "vis") rfl ?_) | ((with_reducible show WE _ (Expr.Name "history" _) _ _); refine we_name 4 rfl (by walk_at "vis") rfl ?_) | ((with_reducible show WE _ (Expr.Name "ranks" _) _ _); refine we_name 5 rfl (by walk_at "vis") rfl ?_) | ((with_reducible show WE _ (Expr.Name "record" _) _ _); refine we_name 6 rfl (by walk_at "vis") rfl ?_) | ((with_reducible show WE _ (Expr.Name "rank" _) _ _); refine we_name 7 rfl (by walk_at "vis") rfl ?_) | ((with_reducible show WE _ (Expr.Name "changes" _) _ _); refine we_name 8 rfl (by walk_at "vis") rfl ?_) | ((with_reducible show WE _ (Expr.Name "places" _) _ _); refine we_name 9 rfl (by walk_at "vis") rfl ?_) | ((with_reducible show WE _ (Expr.Name "sizes" _) _ _); refine we_name 10 rfl (by walk_at "vis") rfl ?_) | ((with_reducible show WE _ (Expr.Name "change" _) _ _); refine we_name 11 rfl (by walk_at "vis") rfl ?_) | ((with_reducible show WE _ (Expr.Name "names" _) _ _); refine we_name 12 rfl (by walk_at "vis") rfl ?_) | ((with_reducible show WE _ (Expr.Name "reader" _) _ _); refine we_name 13 rfl (by walk_at "vis") rfl ?_) | ((with_reducible show WE _ (Expr.Name "other" _) _ _); refine we_name 14 rfl (by walk_at "vis") rfl ?_) | ((with_reducible show WE _ (Expr.Name "found" _) _ _); refine we_name 15 rfl (by walk_at "vis") rfl ?_) | ((with_reducible show WE _ (Expr.Name "more" _) _ _); refine we_name 16 rfl (by walk_at "vis") rfl ?_))
local macro_rules | `(tactic| walk_at "no") => `(tactic| first | ((with_reducible show WO _ (Expr.Name "script" _) _ _); refine wo_own 0 rfl (by walk_at "vis") rfl ?_) | ((with_reducible show WO _ (Expr.Name "reel" _) _ _); refine wo_own 1 rfl (by walk_at "vis") rfl ?_) | ((with_reducible show WO _ (Expr.Name "k" _) _ _); refine wo_own 2 rfl (by walk_at "vis") rfl ?_) | ((with_reducible show WO _ (Expr.Name "readers" _) _ _); refine wo_own 3 rfl (by walk_at "vis") rfl ?_) | ((with_reducible show WO _ (Expr.Name "history" _) _ _); refine wo_own 4 rfl (by walk_at "vis") rfl ?_) | ((with_reducible show WO _ (Expr.Name "ranks" _) _ _); refine wo_own 5 rfl (by walk_at "vis") rfl ?_) | ((with_reducible show WO _ (Expr.Name "record" _) _ _); refine wo_own 6 rfl (by walk_at "vis") rfl ?_) | ((with_reducible show WO _ (Expr.Name "rank" _) _ _); refine wo_own 7 rfl (by walk_at "vis") rfl ?_) | ((with_reducible show WO _ (Expr.Name "changes" _) _ _); refine wo_own 8 rfl (by walk_at "vis") rfl ?_) | ((with_reducible show WO _ (Expr.Name "places" _) _ _); refine wo_own 9 rfl (by walk_at "vis") rfl ?_) | ((with_reducible show WO _ (Expr.Name "sizes" _) _ _); refine wo_own 10 rfl (by walk_at "vis") rfl ?_) | ((with_reducible show WO _ (Expr.Name "change" _) _ _); refine wo_own 11 rfl (by walk_at "vis") rfl ?_) | ((with_reducible show WO _ (Expr.Name "names" _) _ _); refine wo_own 12 rfl (by walk_at "vis") rfl ?_) | ((with_reducible show WO _ (Expr.Name "reader" _) _ _); refine wo_own 13 rfl (by walk_at "vis") rfl ?_) | ((with_reducible show WO _ (Expr.Name "other" _) _ _); refine wo_own 14 rfl (by walk_at "vis") rfl ?_) | ((with_reducible show WO _ (Expr.Name "found" _) _ _); refine wo_own 15 rfl (by walk_at "vis") rfl ?_) | ((with_reducible show WO _ (Expr.Name "more" _) _ _); refine wo_own 16 rfl (by walk_at "vis") rfl ?_))
local macro_rules | `(tactic| walk_at "rel") => `(tactic| first | ((with_reducible show WG _ (Expr.Name "script" _ :: _) _ _); refine wg_rel 0 rfl (by walk_at "vis") rfl ?_) | ((with_reducible show WG _ (Expr.Name "reel" _ :: _) _ _); refine wg_rel 1 rfl (by walk_at "vis") rfl ?_) | ((with_reducible show WG _ (Expr.Name "k" _ :: _) _ _); refine wg_rel 2 rfl (by walk_at "vis") rfl ?_) | ((with_reducible show WG _ (Expr.Name "readers" _ :: _) _ _); refine wg_rel 3 rfl (by walk_at "vis") rfl ?_) | ((with_reducible show WG _ (Expr.Name "history" _ :: _) _ _); refine wg_rel 4 rfl (by walk_at "vis") rfl ?_) | ((with_reducible show WG _ (Expr.Name "ranks" _ :: _) _ _); refine wg_rel 5 rfl (by walk_at "vis") rfl ?_) | ((with_reducible show WG _ (Expr.Name "record" _ :: _) _ _); refine wg_rel 6 rfl (by walk_at "vis") rfl ?_) | ((with_reducible show WG _ (Expr.Name "rank" _ :: _) _ _); refine wg_rel 7 rfl (by walk_at "vis") rfl ?_) | ((with_reducible show WG _ (Expr.Name "changes" _ :: _) _ _); refine wg_rel 8 rfl (by walk_at "vis") rfl ?_) | ((with_reducible show WG _ (Expr.Name "places" _ :: _) _ _); refine wg_rel 9 rfl (by walk_at "vis") rfl ?_) | ((with_reducible show WG _ (Expr.Name "sizes" _ :: _) _ _); refine wg_rel 10 rfl (by walk_at "vis") rfl ?_) | ((with_reducible show WG _ (Expr.Name "change" _ :: _) _ _); refine wg_rel 11 rfl (by walk_at "vis") rfl ?_) | ((with_reducible show WG _ (Expr.Name "names" _ :: _) _ _); refine wg_rel 12 rfl (by walk_at "vis") rfl ?_) | ((with_reducible show WG _ (Expr.Name "reader" _ :: _) _ _); refine wg_rel 13 rfl (by walk_at "vis") rfl ?_) | ((with_reducible show WG _ (Expr.Name "other" _ :: _) _ _); refine wg_rel 14 rfl (by walk_at "vis") rfl ?_) | ((with_reducible show WG _ (Expr.Name "found" _ :: _) _ _); refine wg_rel 15 rfl (by walk_at "vis") rfl ?_) | ((with_reducible show WG _ (Expr.Name "more" _ :: _) _ _); refine wg_rel 16 rfl (by walk_at "vis") rfl ?_))
local macro_rules | `(tactic| walk_at "set") => `(tactic| first | ((with_reducible show W1 _ (Stmt.Assign [Expr.Name "script" _] _ _) _ _); refine w1_set 0 ?_ rfl (by walk_at "loc") (Or.inl rfl)) | ((with_reducible show W1 _ (Stmt.Assign [Expr.Name "reel" _] _ _) _ _); refine w1_set 1 ?_ rfl (by walk_at "loc") (Or.inl rfl)) | ((with_reducible show W1 _ (Stmt.Assign [Expr.Name "k" _] _ _) _ _); refine w1_set 2 ?_ rfl (by walk_at "loc") (Or.inl rfl)) | ((with_reducible show W1 _ (Stmt.Assign [Expr.Name "readers" _] _ _) _ _); refine w1_set 3 ?_ rfl (by walk_at "loc") (Or.inl rfl)) | ((with_reducible show W1 _ (Stmt.Assign [Expr.Name "history" _] _ _) _ _); refine w1_set 4 ?_ rfl (by walk_at "loc") (Or.inl rfl)) | ((with_reducible show W1 _ (Stmt.Assign [Expr.Name "ranks" _] _ _) _ _); refine w1_set 5 ?_ rfl (by walk_at "loc") (Or.inl rfl)) | ((with_reducible show W1 _ (Stmt.Assign [Expr.Name "record" _] _ _) _ _); refine w1_set 6 ?_ rfl (by walk_at "loc") (Or.inl rfl)) | ((with_reducible show W1 _ (Stmt.Assign [Expr.Name "rank" _] _ _) _ _); refine w1_set 7 ?_ rfl (by walk_at "loc") (Or.inl rfl)) | ((with_reducible show W1 _ (Stmt.Assign [Expr.Name "changes" _] _ _) _ _); refine w1_set 8 ?_ rfl (by walk_at "loc") (Or.inl rfl)) | ((with_reducible show W1 _ (Stmt.Assign [Expr.Name "places" _] _ _) _ _); refine w1_set 9 ?_ rfl (by walk_at "loc") (Or.inl rfl)) | ((with_reducible show W1 _ (Stmt.Assign [Expr.Name "sizes" _] _ _) _ _); refine w1_set 10 ?_ rfl (by walk_at "loc") (Or.inl rfl)) | ((with_reducible show W1 _ (Stmt.Assign [Expr.Name "change" _] _ _) _ _); refine w1_set 11 ?_ rfl (by walk_at "loc") (Or.inl rfl)) | ((with_reducible show W1 _ (Stmt.Assign [Expr.Name "names" _] _ _) _ _); refine w1_set 12 ?_ rfl (by walk_at "loc") (Or.inl rfl)) | ((with_reducible show W1 _ (Stmt.Assign [Expr.Name "reader" _] _ _) _ _); refine w1_set 13 ?_ rfl (by walk_at "loc") (Or.inl rfl)) | ((with_reducible show W1 _ (Stmt.Assign [Expr.Name "other" _] _ _) _ _); refine w1_set 14 ?_ rfl (by walk_at "loc") (Or.inl rfl)) | ((with_reducible show W1 _ (Stmt.Assign [Expr.Name "found" _] _ _) _ _); refine w1_set 15 ?_ rfl (by walk_at "loc") (Or.inl rfl)) | ((with_reducible show W1 _ (Stmt.Assign [Expr.Name "more" _] _ _) _ _); refine w1_set 16 ?_ rfl (by walk_at "loc") (Or.inl rfl)))
local macro_rules | `(tactic| walk_at "app") => `(tactic| first | ((with_reducible show W1 _ (Stmt.Expr (Expr.Call (Expr.Attribute (Expr.Name "script" _) _ _) _ _ _) _) _ _); refine w1_append 0 rfl ?_ rfl (by walk_at "vis")) | ((with_reducible show W1 _ (Stmt.Expr (Expr.Call (Expr.Attribute (Expr.Name "reel" _) _ _) _ _ _) _) _ _); refine w1_append 1 rfl ?_ rfl (by walk_at "vis")) | ((with_reducible show W1 _ (Stmt.Expr (Expr.Call (Expr.Attribute (Expr.Name "k" _) _ _) _ _ _) _) _ _); refine w1_append 2 rfl ?_ rfl (by walk_at "vis")) | ((with_reducible show W1 _ (Stmt.Expr (Expr.Call (Expr.Attribute (Expr.Name "readers" _) _ _) _ _ _) _) _ _); refine w1_append 3 rfl ?_ rfl (by walk_at "vis")) | ((with_reducible show W1 _ (Stmt.Expr (Expr.Call (Expr.Attribute (Expr.Name "history" _) _ _) _ _ _) _) _ _); refine w1_append 4 rfl ?_ rfl (by walk_at "vis")) | ((with_reducible show W1 _ (Stmt.Expr (Expr.Call (Expr.Attribute (Expr.Name "ranks" _) _ _) _ _ _) _) _ _); refine w1_append 5 rfl ?_ rfl (by walk_at "vis")) | ((with_reducible show W1 _ (Stmt.Expr (Expr.Call (Expr.Attribute (Expr.Name "record" _) _ _) _ _ _) _) _ _); refine w1_append 6 rfl ?_ rfl (by walk_at "vis")) | ((with_reducible show W1 _ (Stmt.Expr (Expr.Call (Expr.Attribute (Expr.Name "rank" _) _ _) _ _ _) _) _ _); refine w1_append 7 rfl ?_ rfl (by walk_at "vis")) | ((with_reducible show W1 _ (Stmt.Expr (Expr.Call (Expr.Attribute (Expr.Name "changes" _) _ _) _ _ _) _) _ _); refine w1_append 8 rfl ?_ rfl (by walk_at "vis")) | ((with_reducible show W1 _ (Stmt.Expr (Expr.Call (Expr.Attribute (Expr.Name "places" _) _ _) _ _ _) _) _ _); refine w1_append 9 rfl ?_ rfl (by walk_at "vis")) | ((with_reducible show W1 _ (Stmt.Expr (Expr.Call (Expr.Attribute (Expr.Name "sizes" _) _ _) _ _ _) _) _ _); refine w1_append 10 rfl ?_ rfl (by walk_at "vis")) | ((with_reducible show W1 _ (Stmt.Expr (Expr.Call (Expr.Attribute (Expr.Name "change" _) _ _) _ _ _) _) _ _); refine w1_append 11 rfl ?_ rfl (by walk_at "vis")) | ((with_reducible show W1 _ (Stmt.Expr (Expr.Call (Expr.Attribute (Expr.Name "names" _) _ _) _ _ _) _) _ _); refine w1_append 12 rfl ?_ rfl (by walk_at "vis")) | ((with_reducible show W1 _ (Stmt.Expr (Expr.Call (Expr.Attribute (Expr.Name "reader" _) _ _) _ _ _) _) _ _); refine w1_append 13 rfl ?_ rfl (by walk_at "vis")) | ((with_reducible show W1 _ (Stmt.Expr (Expr.Call (Expr.Attribute (Expr.Name "other" _) _ _) _ _ _) _) _ _); refine w1_append 14 rfl ?_ rfl (by walk_at "vis")) | ((with_reducible show W1 _ (Stmt.Expr (Expr.Call (Expr.Attribute (Expr.Name "found" _) _ _) _ _ _) _) _ _); refine w1_append 15 rfl ?_ rfl (by walk_at "vis")) | ((with_reducible show W1 _ (Stmt.Expr (Expr.Call (Expr.Attribute (Expr.Name "more" _) _ _) _ _ _) _) _ _); refine w1_append 16 rfl ?_ rfl (by walk_at "vis")))
local macro_rules | `(tactic| walk_at "sto") => `(tactic| first | ((with_reducible show W1 _ (Stmt.Assign [Expr.Subscript (Expr.Name "script" _) _ _] _ _) _ _); refine w1_store 0 rfl ?_ rfl (by walk_at "vis")) | ((with_reducible show W1 _ (Stmt.Assign [Expr.Subscript (Expr.Name "reel" _) _ _] _ _) _ _); refine w1_store 1 rfl ?_ rfl (by walk_at "vis")) | ((with_reducible show W1 _ (Stmt.Assign [Expr.Subscript (Expr.Name "k" _) _ _] _ _) _ _); refine w1_store 2 rfl ?_ rfl (by walk_at "vis")) | ((with_reducible show W1 _ (Stmt.Assign [Expr.Subscript (Expr.Name "readers" _) _ _] _ _) _ _); refine w1_store 3 rfl ?_ rfl (by walk_at "vis")) | ((with_reducible show W1 _ (Stmt.Assign [Expr.Subscript (Expr.Name "history" _) _ _] _ _) _ _); refine w1_store 4 rfl ?_ rfl (by walk_at "vis")) | ((with_reducible show W1 _ (Stmt.Assign [Expr.Subscript (Expr.Name "ranks" _) _ _] _ _) _ _); refine w1_store 5 rfl ?_ rfl (by walk_at "vis")) | ((with_reducible show W1 _ (Stmt.Assign [Expr.Subscript (Expr.Name "record" _) _ _] _ _) _ _); refine w1_store 6 rfl ?_ rfl (by walk_at "vis")) | ((with_reducible show W1 _ (Stmt.Assign [Expr.Subscript (Expr.Name "rank" _) _ _] _ _) _ _); refine w1_store 7 rfl ?_ rfl (by walk_at "vis")) | ((with_reducible show W1 _ (Stmt.Assign [Expr.Subscript (Expr.Name "changes" _) _ _] _ _) _ _); refine w1_store 8 rfl ?_ rfl (by walk_at "vis")) | ((with_reducible show W1 _ (Stmt.Assign [Expr.Subscript (Expr.Name "places" _) _ _] _ _) _ _); refine w1_store 9 rfl ?_ rfl (by walk_at "vis")) | ((with_reducible show W1 _ (Stmt.Assign [Expr.Subscript (Expr.Name "sizes" _) _ _] _ _) _ _); refine w1_store 10 rfl ?_ rfl (by walk_at "vis")) | ((with_reducible show W1 _ (Stmt.Assign [Expr.Subscript (Expr.Name "change" _) _ _] _ _) _ _); refine w1_store 11 rfl ?_ rfl (by walk_at "vis")) | ((with_reducible show W1 _ (Stmt.Assign [Expr.Subscript (Expr.Name "names" _) _ _] _ _) _ _); refine w1_store 12 rfl ?_ rfl (by walk_at "vis")) | ((with_reducible show W1 _ (Stmt.Assign [Expr.Subscript (Expr.Name "reader" _) _ _] _ _) _ _); refine w1_store 13 rfl ?_ rfl (by walk_at "vis")) | ((with_reducible show W1 _ (Stmt.Assign [Expr.Subscript (Expr.Name "other" _) _ _] _ _) _ _); refine w1_store 14 rfl ?_ rfl (by walk_at "vis")) | ((with_reducible show W1 _ (Stmt.Assign [Expr.Subscript (Expr.Name "found" _) _ _] _ _) _ _); refine w1_store 15 rfl ?_ rfl (by walk_at "vis")) | ((with_reducible show W1 _ (Stmt.Assign [Expr.Subscript (Expr.Name "more" _) _ _] _ _) _ _); refine w1_store 16 rfl ?_ rfl (by walk_at "vis")))
local macro_rules | `(tactic| walk_at "tg") => `(tactic| first | ((with_reducible show WTg _ (Expr.Name "script" _) _ _ _ _); refine wtg_name 0 rfl (by walk_at "loc") (by walk_at "loc") ?_) | ((with_reducible show WTg _ (Expr.Name "reel" _) _ _ _ _); refine wtg_name 1 rfl (by walk_at "loc") (by walk_at "loc") ?_) | ((with_reducible show WTg _ (Expr.Name "k" _) _ _ _ _); refine wtg_name 2 rfl (by walk_at "loc") (by walk_at "loc") ?_) | ((with_reducible show WTg _ (Expr.Name "readers" _) _ _ _ _); refine wtg_name 3 rfl (by walk_at "loc") (by walk_at "loc") ?_) | ((with_reducible show WTg _ (Expr.Name "history" _) _ _ _ _); refine wtg_name 4 rfl (by walk_at "loc") (by walk_at "loc") ?_) | ((with_reducible show WTg _ (Expr.Name "ranks" _) _ _ _ _); refine wtg_name 5 rfl (by walk_at "loc") (by walk_at "loc") ?_) | ((with_reducible show WTg _ (Expr.Name "record" _) _ _ _ _); refine wtg_name 6 rfl (by walk_at "loc") (by walk_at "loc") ?_) | ((with_reducible show WTg _ (Expr.Name "rank" _) _ _ _ _); refine wtg_name 7 rfl (by walk_at "loc") (by walk_at "loc") ?_) | ((with_reducible show WTg _ (Expr.Name "changes" _) _ _ _ _); refine wtg_name 8 rfl (by walk_at "loc") (by walk_at "loc") ?_) | ((with_reducible show WTg _ (Expr.Name "places" _) _ _ _ _); refine wtg_name 9 rfl (by walk_at "loc") (by walk_at "loc") ?_) | ((with_reducible show WTg _ (Expr.Name "sizes" _) _ _ _ _); refine wtg_name 10 rfl (by walk_at "loc") (by walk_at "loc") ?_) | ((with_reducible show WTg _ (Expr.Name "change" _) _ _ _ _); refine wtg_name 11 rfl (by walk_at "loc") (by walk_at "loc") ?_) | ((with_reducible show WTg _ (Expr.Name "names" _) _ _ _ _); refine wtg_name 12 rfl (by walk_at "loc") (by walk_at "loc") ?_) | ((with_reducible show WTg _ (Expr.Name "reader" _) _ _ _ _); refine wtg_name 13 rfl (by walk_at "loc") (by walk_at "loc") ?_) | ((with_reducible show WTg _ (Expr.Name "other" _) _ _ _ _); refine wtg_name 14 rfl (by walk_at "loc") (by walk_at "loc") ?_) | ((with_reducible show WTg _ (Expr.Name "found" _) _ _ _ _); refine wtg_name 15 rfl (by walk_at "loc") (by walk_at "loc") ?_) | ((with_reducible show WTg _ (Expr.Name "more" _) _ _ _ _); refine wtg_name 16 rfl (by walk_at "loc") (by walk_at "loc") ?_))

local macro_rules | `(tactic| walk_at "fn") => `(tactic| first | ((with_reducible show WE _ (Expr.Call (Expr.Name "_law_draw" _) _ _ _) _ _); refine we_call (by with_reducible assumption) (by dsimp only; omega) ?_) | ((with_reducible show WE _ (Expr.Call (Expr.Name "_law_history" _) _ _ _) _ _); refine we_call (by with_reducible assumption) (by dsimp only; omega) ?_) | ((with_reducible show WE _ (Expr.Call (Expr.Name "is_ranks" _) _ _ _) _ _); refine we_call (by with_reducible assumption) (by dsimp only; omega) ?_) | ((with_reducible show WE _ (Expr.Call (Expr.Name "is_history" _) _ _ _) _ _); refine we_call (by with_reducible assumption) (by dsimp only; omega) ?_) | ((with_reducible show WE _ (Expr.Call (Expr.Name "greatest_size" _) _ _ _) _ _); refine we_call (by with_reducible assumption) (by dsimp only; omega) ?_))

theorem ws_law {k : Nat} (hk : 7 ≤ k) (B : Bl mg) (mso : mg "sorted" = none) (bso : bootBuiltins "sorted" = some (.builtin "sorted")) (hRe : Has P w K mg base "_law_reel" 1 wReel) (hDr : Has P w K mg base "_law_draw" 1 wDraw) (hHi : Has P w K mg base "_law_history" 2 wHis) (hSh : HasO P w K mg base "_law_shuffled" 2 wShf) (hRk : HasO P w K mg base "ranks_of" 5 wRks) (hRo : HasO P w K mg base "record_of" 7 wRof) (hRb : HasO P w K mg base "record_by" 3 wRby) (hCb : HasO P w K mg base "changes_by" 6 wCby) (hIs : Has P w K mg base "is_ranks" 3 wIsr) (hPo : HasO P w K mg base "positions_after" 5 wPos) (hGs : Has P w K mg base "greatest_size" 7 wGsz) (hIh : Has P w K mg base "is_history" 3 wIsh) (hHb : HasO P w K mg base "history_by" 4 wHby) (as : List SV) (Q : PyData → Prop) (h : wLaw as Q) :
    WS ⟨P, w, K, mg, base, ["script", "reel", "k", "readers", "history", "ranks", "record", "rank", "changes", "places", "sizes", "change", "names", "reader", "other", "found", "more"], defScope sLaw, fun _ => true, k⟩ (defBody sLaw) (startR ["script", "reel", "k", "readers", "history", "ranks", "record", "rank", "changes", "places", "sizes", "change", "names", "reader", "other", "found", "more"] as) (endR Q) := by
  obtain ⟨mi, mn, mb, mls, mt, ml, ma, mr, mre, mmi, mma, ms⟩ := B
  obtain ⟨ns, rfl, hl, q⟩ := h
  refine ws_cons (w1_reel 0 1 hRe (by dsimp only; omega) hl rfl (Or.inl rfl) rfl ?_ rfl (by walk_at "loc") (Or.inl rfl))
  show WS _ _ _ _
  refine ws_cons (w1_for [2] (wi_range ?_ mr))
  refine WO.of (we_plus ?_)
  repeat walk_at "q"
  refine ⟨by split <;> omega, by split <;> omega, fun i ρ' => ∃ a2 a3 a4 a5 a6 a7 a8 a9 a10 a11 a12 a13 a14 a15 a16, ρ' = [some (.scr ns), some .rel, a2, a3, a4, a5, a6, a7, a8, a9, a10, a11, a12, a13, a14, a15, a16], ⟨_, _, _, _, _, _, _, _, _, _, _, _, _, _, _, rfl⟩, fun i d ρ' hd hJ => ?_, fun ρ' hJ => ?_⟩
  · obtain ⟨a2, a3, a4, a5, a6, a7, a8, a9, a10, a11, a12, a13, a14, a15, a16, rfl⟩ := hJ
    obtain rfl : d = .int (i : Int) := by
      have hi := (List.getElem?_eq_some_iff.mp hd).1
      rw [upTo_len] at hi
      rw [upTo_get hi] at hd
      exact (Option.some.inj hd).symm
    clear hd
    walk_at "tg"
    -- readers
    refine ws_cut (fun ρ' => ∃ r : Nat, 1 ≤ r ∧ r ≤ 200 ∧ ρ' = [some (.scr ns), some .rel, some (.dat (.int (i : Int))), some (.dat (.int (r : Int))), a4, a5, a6, a7, a8, a9, a10, a11, a12, a13, a14, a15, a16]) ?_ fun ρ' ⟨r, r1, r2, e⟩ => ?_
    · walk_at "1"
      repeat walk_at "q"
      have hz : (i : Int) % 2 = 0 ∨ (i : Int) % 2 = 1 := by omega
      rcases hz with hz | hz <;> rw [hz]
      · repeat walk_at "q"
        rename_i x x0 x1
        exact ⟨(1 + x).toNat, by omega, by omega, by rw [Int.toNat_of_nonneg (by omega)]; rfl⟩
      · repeat walk_at "q"
        rename_i x x0 x1
        exact ⟨(1 + x).toNat, by omega, by omega, by rw [Int.toNat_of_nonneg (by omega)]; rfl⟩
    subst e
    -- history
    refine ws_cut (fun ρ' => ∃ hs : List Nat, hs.length ≤ 300 ∧ (∀ x ∈ hs, x < r) ∧ ρ' = [some (.scr ns), some .rel, some (.dat (.int (i : Int))), some (.dat (.int (r : Int))), some (.dat (.list (hs.map natD))), a5, a6, a7, a8, a9, a10, a11, a12, a13, a14, a15, a16]) ?_ fun ρ' ⟨hs, hx, hxs, e⟩ => ?_
    · walk_at "1"
      repeat walk_at "q"
      rename_i m m0 m1
      refine ⟨(r : Int), m, rfl, by omega, lt8000 (Int.lt_of_le_of_lt (show (r : Int) ≤ 200 by omega) (by decide)), m0, by omega, fun xs hx hxs => ⟨xs.map Int.toNat, by rw [List.length_map]; omega, fun x hx' => ?_, ?_⟩⟩
      · obtain ⟨y, hy, rfl⟩ := List.mem_map.mp hx'
        have := hxs y hy
        omega
      · have e : (xs.map Int.toNat).map natD = xs.map PyData.int := by
          rw [List.map_map]
          refine List.map_congr_left fun x hx' => ?_
          show PyData.int ((x.toNat : Nat) : Int) = .int x
          rw [Int.toNat_of_nonneg (hxs x hx').1]
        rw [e]
        rfl
    subst e
    have hln : (List.replicate r (0 : Int)).length = r := List.length_replicate
    have hxl : ∀ x ∈ hs, x < (List.replicate r (0 : Int)).length := by rw [hln]; exact hxs
    have ok := ok_ranks (rel_start r) hxl
    have hkr := ranks_lt hln ok
    have hkl : (ranksFrom (List.replicate r 0) hs).length ≤ 400 := by rw [ranksFrom_len]; omega
    have hcl : (chgsOf r hs).length ≤ 400 := by rw [chgsOf_len]; omega
    have hclo : ∀ c ∈ chgsOf r hs, -1 ≤ c ∧ c ≤ 1 := fun c hc => by
      obtain ⟨k', _, rfl⟩ := List.mem_map.mp hc
      exact chg_lo r k'
    have ok1 := runsOf_ok (chgsOf r hs)
    have hrl : (runsOf (chgsOf r hs)).length ≤ 400 := Nat.le_trans (runsOf_len _) hcl
    have htot : total (runsOf (chgsOf r hs)) ≤ 400 := by rw [ok1.tot]; omega
    have hple : ∀ p ∈ runsOf (chgsOf r hs), p.2 ≤ 400 := fun p hp => by
      obtain ⟨s, t, e⟩ := List.append_of_mem hp
      have hs0 : ∀ l : List (Int × Int), (∀ p ∈ l, 1 ≤ p.2) → 0 ≤ total l := fun l hl => by
        rw [← total_expand fun p hp => by have := hl p hp; omega]
        omega
      have h4 : total (runsOf (chgsOf r hs)) = total s + (p.2 + total t) := by
        rw [e]
        unfold total
        rw [List.map_append, List.sum_append, List.map_cons, List.sum_cons]
      have := hs0 s fun p hp => ok1.pos p (by rw [e]; simp [hp])
      have := hs0 t fun p hp => ok1.pos p (by rw [e]; simp [hp])
      omega
    have hrec : recB (.list ((runsOf (chgsOf r hs)).map runD)) = true := runsL_rec ok1.ap hrl fun p hp => by
      have a := hclo _ (ok1.chg p hp)
      have b := ok1.pos p hp
      have c := hple p hp
      omega
    have hRB : ranksB (r : Int) (.list ((ranksFrom (List.replicate r 0) hs).map natD)) = true := by
      rw [ranksB_seq (.inl rfl) hkr, decide_eq_true (by rw [ranksFrom_len]; omega), (okB_iff (dec_zero r) (by rw [hln]; exact hkr)).mpr ok]
      rfl
    have hR := rel_bumps (rel_start r) hxl
    have shR := shaped_runs (runsOf (chgsOf r hs))
    have shC := shaped_ints (chgsOf r hs)
    have shK := shaped_nats (ranksFrom (List.replicate r 0) hs)
    -- ranks, record
    refine ws_cons (w1_parDc 5 6 (we_callO hRk (by dsimp only; omega) ?_) rfl rfl (by walk_at "loc") (Or.inl rfl) (by walk_at "loc") (Or.inl rfl) ?_)
    case refine_2 =>
      intro env h1
      obtain ⟨sc, e1, e2, e3, e4, e5, e6, e7, e8⟩ := env
      cases (show sc = defScope sLaw from h1)
      rfl
    repeat walk_at "q"
    refine ⟨r, _, hs, rfl, .inl rfl, r1, r2, by omega, hxs, ?_⟩
    refine we_callO hRo (by dsimp only; omega) ?_
    repeat walk_at "q"
    refine ⟨r, _, hs, rfl, .inl rfl, r1, r2, by omega, hxs, ?_⟩
    show WS _ _ _ _
    -- changes
    walk_at "S"
    refine w1_setLc 8 [("rank", 7)] [7] (wi_list ?_) rfl rfl rfl
    walk_at "q"
    refine ⟨_, rfl, by rw [List.length_map]; omega, fun j acc => acc = ((ranksFrom (List.replicate r 0) hs).take j).map (fun k => PyData.int (chg r k)), rfl, fun j y acc hy hJ => ?_, fun acc hJ => ?_⟩
    · obtain ⟨k', hk', ed⟩ := natD_get hy
      replace ed : y = .int (k' : Int) := ed
      subst ed
      subst hJ
      walk_at "tg"
      refine ⟨fun _ => ?_, fun z => (by cases z)⟩
      have fin : ∀ v : Int, v = chg r k' → ((ranksFrom (List.replicate r 0) hs).take j).map (fun k => PyData.int (chg r k)) ++ [.int v] = ((ranksFrom (List.replicate r 0) hs).take (j + 1)).map (fun k => PyData.int (chg r k)) := fun v e => by
        rw [e, take_snoc hk', List.map_append]
        rfl
      repeat walk_at "q"
      refine fin _ ?_
      rw [show PyData.eqv (.int (k' : Int)) (.int 0) = ((k' : Int) == 0) from rfl, show PyData.eqv (.int (k' : Int)) (.int ((r : Int) - 1)) = ((k' : Int) == (r : Int) - 1) from rfl]
      exact chg_sub (hkr k' (List.mem_of_getElem? hk'))
    replace hJ : acc = (chgsOf r hs).map PyData.int := by
      rw [hJ, List.length_map, List.take_length]
      unfold chgsOf
      rw [List.map_map]
      rfl
    subst hJ
    -- if record != record_by(changes) or ..
    walk_at "S"
    refine w1_if (wt_bool (ww_or (wt_cmp ?_)))
    repeat walk_at "q"
    refine we_callO hRb (by dsimp only; omega) ?_
    repeat walk_at "q"
    refine ⟨_, chgsOf r hs, rfl, .inl rfl, hcl, hclo, ?_⟩
    repeat walk_at "q"
    rotate_left
    · rename_i z
      rw [eqv_runs] at z
      cases z
    refine we_callO hCb (by dsimp only; omega) ?_
    repeat walk_at "q"
    refine ⟨_, runsOf (chgsOf r hs), rfl, hrec, runsL_self _, by omega, ?_⟩
    rw [ok1.ex]
    repeat walk_at "q"
    rotate_left
    · rename_i z
      rw [eqv_ints] at z
      cases z
    refine ⟨_, _, rfl, by omega, by omega, ?_⟩
    rw [hRB]
    repeat walk_at "q"
    · rename_i z
      cases z
    walk_at "S"
    show WS _ _ _ _
    -- places
    walk_at "S"
    refine w1_set 9 (we_callO hPo (by dsimp only; omega) ?_) rfl (by walk_at "loc") (Or.inl rfl)
    repeat walk_at "q"
    refine ⟨r, _, hs, rfl, .inl rfl, r1, r2, by omega, hxs, ?_⟩
    show WS _ _ _ _
    walk_at "S"
    refine w1_if (wt_cmp (WO.of (we_rev (WO.of (we_sortedI (WO.of ?_) mso bso)))))
    repeat walk_at "q"
    refine fun ps hp hs' => ⟨_, rfl, ?_⟩
    rw [← List.map_reverse, sorted_counts hR hp hs']
    refine WO.of (we_lc [("rank", 7)] [7] (wi_range ?_ mr))
    refine WO.of ?_
    repeat walk_at "q"
    refine ⟨by omega, by omega, by rw [upTo_len]; omega, fun j acc => acc = ((List.range j).map fun j => PyData.int (((ranksFrom (List.replicate r 0) hs).count j : Nat) : Int)), rfl, fun j y acc hy hJ => ?_, fun acc hJ => ?_⟩
    · subst hJ
      obtain rfl : y = .int (j : Int) := by
        have hi := (List.getElem?_eq_some_iff.mp hy).1
        rw [upTo_len] at hi
        rw [upTo_get hi] at hy
        exact (Option.some.inj hy).symm
      walk_at "tg"
      refine ⟨fun _ => ?_, fun z => (by cases z)⟩
      refine we_countI (WO.of ?_)
      repeat walk_at "q"
      refine ⟨(ranksFrom (List.replicate r 0) hs).map fun h => ((h : Nat) : Int), congrArg PyData.list (natD_map _), ?_⟩
      repeat walk_at "q"
      rw [count_cast, List.range_succ, List.map_append]
      rfl
    replace hJ : acc = (bumps (List.replicate r 0) (ranksFrom (List.replicate r 0) hs)).map PyData.int := by
      rw [hJ, upTo_len, Int.toNat_natCast, bumps_count _ hkr, List.map_map]
      rfl
    subst hJ
    have shB := shaped_ints (bumps (List.replicate r 0) (ranksFrom (List.replicate r 0) hs))
    repeat walk_at "q"
    · rename_i z
      rw [eqv_ints] at z
      cases z
    walk_at "S"
    show WS _ _ _ _
    -- sizes
    walk_at "S"
    refine w1_setO 10 (wf_list ?_) rfl (by walk_at "loc") (Or.inl rfl)
    repeat walk_at "q"
    refine ws_cut (fun ρ' => ∃ t : Option SV, ρ' = [some (.scr ns), some .rel, some (.dat (.int (i : Int))), some (.dat (.int (r : Int))), some (.dat (.list (hs.map natD))), some (.dat (.list ((ranksFrom (List.replicate r 0) hs).map natD))), some (.dat (.list ((runsOf (chgsOf r hs)).map runD))), a7, some (.dat (.list ((chgsOf r hs).map .int))), some (.dat (.list ((bumps (List.replicate r 0) hs).map .int))), some (.own (((0 : Int) :: sizesFrom (List.replicate r 0) hs).map .int)), t, a12, a13, a14, a15, a16]) ?_ fun ρ' ⟨b11, e⟩ => ?_
    · refine w1_for [11] (wi_list ?_)
      walk_at "q"
      refine ⟨(chgsOf r hs).map .int, rfl, fun j ρ' => ∃ t : Option SV, ρ' = [some (.scr ns), some .rel, some (.dat (.int (i : Int))), some (.dat (.int (r : Int))), some (.dat (.list (hs.map natD))), some (.dat (.list ((ranksFrom (List.replicate r 0) hs).map natD))), some (.dat (.list ((runsOf (chgsOf r hs)).map runD))), a7, some (.dat (.list ((chgsOf r hs).map .int))), some (.dat (.list ((bumps (List.replicate r 0) hs).map .int))), some (.own (((0 : Int) :: sizesFrom (List.replicate r 0) (hs.take j)).map .int)), t, a12, a13, a14, a15, a16], ⟨_, rfl⟩, fun j y ρ' hy hJ => ?_, fun ρ' hJ => ?_⟩
      · obtain ⟨t, rfl⟩ := hJ
        have hjl : j < hs.length := by
          have := (List.getElem?_eq_some_iff.mp hy).1
          rwa [List.length_map, chgsOf_len] at this
        obtain ⟨h, hjh⟩ : ∃ h, hs[j]? = some h := ⟨_, List.getElem?_eq_getElem hjl⟩
        have hst := size_step hxs hjh
        rw [List.getElem?_map, hst] at hy
        obtain rfl := (Option.some.inj hy).symm
        obtain ⟨u, hu⟩ := last_size r1 (hs.take j)
        have hul : u.length = j := by
          have := congrArg List.length hu
          rw [List.length_cons, List.length_append, sizesFrom_len, List.length_take] at this
          simp at this
          omega
        rw [hu]
        walk_at "tg"
        walk_at "S"
        walk_at "1"
        repeat walk_at "q"
        refine ⟨_, last_int, ?_⟩
        repeat walk_at "q"
        have fin : ∀ v : Int, v = spread (bump (bumps (List.replicate r 0) (hs.take j)) h) → (u ++ [spread (bumps (List.replicate r 0) (hs.take j))]).map PyData.int ++ [.int v] = ((0 : Int) :: sizesFrom (List.replicate r 0) (hs.take (j + 1))).map PyData.int := fun v e => by
          rw [e, ← hu, take_snoc hjh, sizesFrom_snoc, ← List.cons_append, List.map_append]
          rfl
        refine ⟨Nat.lt_of_le_of_lt (show _ ≤ 400 by rw [List.length_map, List.length_append]; simp only [List.length_cons, List.length_nil]; omega) (by decide), ws_nil ?_⟩
        rw [fin _ (show spread (bumps (List.replicate r 0) (hs.take j)) + (spread (bump (bumps (List.replicate r 0) (hs.take j)) h) - spread (bumps (List.replicate r 0) (hs.take j))) = _ by omega)]
        exact ⟨_, rfl⟩
      · obtain ⟨t, rfl⟩ := hJ
        rw [List.length_map, chgsOf_len, List.take_length]
        exact ⟨_, rfl⟩
    subst e
    walk_at "S"
    refine w1_if (wt_lend 10 rfl (wt_bool (ww_or (wt_cmp ?_))))
    repeat walk_at "q"
    refine ⟨r, _, hs, rfl, .inl rfl, r1, r2, by omega, hxs, ?_⟩
    repeat walk_at "q"
    refine ⟨by rw [List.length_cons]; omega, fun m hm1 hm2 => ?_⟩
    rw [gmax_eq hm1 hm2]
    repeat walk_at "q"
    rotate_left
    · rename_i z
      rw [show PyData.eqv (.int (gmax 0 (sizesFrom (List.replicate r 0) hs))) (.int (gmax 0 (sizesFrom (List.replicate r 0) hs))) = true from beq_self_eq_true _] at z
      cases z
    obtain ⟨u, hu⟩ := last_size r1 hs
    refine ⟨_, by rw [hu]; exact last_int, ?_⟩
    repeat walk_at "q"
    refine ⟨by rw [bumps_len, hln]; omega, fun a ha1 ha2 => ?_⟩
    repeat walk_at "q"
    refine ⟨by rw [bumps_len, hln]; omega, fun b hb1 hb2 => ?_⟩
    repeat walk_at "q"
    · rename_i z
      have e : spread (bumps (List.replicate r 0) hs) = a - b := by
        unfold spread
        rw [maxI_eq ha1 ha2, minI_eq hb1 hb2]
      rw [e, show PyData.eqv (.int (a - b)) (.int (a - b)) = true from beq_self_eq_true _] at z
      cases z
    walk_at "S"
    show WS _ _ _ _
    -- names
    walk_at "S"
    refine w1_set 12 (we_callO hSh (by dsimp only; omega) ?_) rfl (by walk_at "loc") (Or.inl rfl)
    repeat (first | refine we_listRange (WO.of ?_) mls mr | refine WO.of (we_listRange (WO.of ?_) mls mr) | walk_at "q")
    refine ⟨by omega, ?_⟩
    repeat walk_at "q"
    refine ⟨r1, r2, fun nms N => ?_⟩
    show WS _ _ _ _
    -- other
    walk_at "S"
    refine w1_setLc 14 [("reader", 13)] [13] (wi_list ?_) rfl rfl rfl
    walk_at "q"
    refine ⟨hs.map natD, rfl, by rw [List.length_map]; omega, fun j acc => acc = (hs.take j).map (fun h => natD (nameOf nms h)), rfl, fun j y acc hy hJ => ?_, fun acc hJ => ?_⟩
    · obtain ⟨h, hjh, ed⟩ := natD_get hy
      replace ed : y = .int (h : Int) := ed
      subst ed
      subst hJ
      have hn := nameOf_at N (hxs h (List.mem_of_getElem? hjh))
      walk_at "tg"
      refine ⟨fun _ => ?_, fun z => (by cases z)⟩
      repeat walk_at "q"
      refine ⟨natD (nameOf nms h), ?_, ?_⟩
      · exact atI_of rfl (by rw [List.getElem?_map, hn.1]; rfl)
      · rw [take_snoc hjh, List.map_append]
        rfl
    replace hJ : acc = (hs.map (nameOf nms)).map natD := by
      rw [hJ, List.length_map, List.take_length, List.map_map]
      rfl
    subst hJ
    walk_at "S"
    refine w1_if (wt_bool (ww_or ?_))
    repeat walk_at "q"
    have hot : ∀ x ∈ hs.map (nameOf nms), x < r := fun x hx => by
      obtain ⟨h, hh, rfl⟩ := List.mem_map.mp hx
      exact (nameOf_at N (hxs h hh)).2
    have hol : (hs.map (nameOf nms)).length ≤ 300 := by rw [List.length_map]; exact hx
    refine ⟨r, _, rfl, by omega, by omega, ?_⟩
    rw [hist_seq (.inl rfl) (by omega) hot]
    repeat walk_at "q"
    rotate_left
    · rename_i z
      cases z
    refine we_callO hRk (by dsimp only; omega) ?_
    repeat walk_at "q"
    refine ⟨r, _, hs.map (nameOf nms), rfl, .inl rfl, r1, r2, by omega, hot, ?_⟩
    rw [ren_ranks N (ren_start N) hxs]
    repeat walk_at "q"
    · rename_i z
      rw [eqv_nats] at z
      cases z
    walk_at "S"
    show WS _ _ _ _
    -- found
    walk_at "S"
    refine w1_set 15 (we_callO hHb (by dsimp only; omega) ?_) rfl (by walk_at "loc") (Or.inl rfl)
    repeat walk_at "q"
    obtain ⟨hfr, hfl⟩ := ranks_first (rel_start r) ok
    refine ⟨r, _, ranksFrom (List.replicate r 0) hs, rfl, .inl rfl, r1, r2, by rw [ranksFrom_len]; omega, hkr, ok, ?_⟩
    generalize firstFrom (List.replicate r 0) (ranksFrom (List.replicate r 0) hs) = fs at hfr hfl
    have hfn : fs.length ≤ 300 := by
      have := congrArg List.length hfr
      rw [ranksFrom_len, ranksFrom_len] at this
      omega
    have hfx : ∀ x ∈ fs, x < r := by rw [← hln]; exact hfl
    have hR2 := rel_bumps (rel_start r) hfl
    rw [hfr] at hR2
    show WS _ _ _ _
    walk_at "S"
    refine w1_if (wt_bool (ww_or (wt_cmp ?_)))
    repeat walk_at "q"
    refine we_callO hRk (by dsimp only; omega) ?_
    repeat walk_at "q"
    refine ⟨r, _, fs, rfl, .inl rfl, r1, r2, by omega, hfx, ?_⟩
    rw [hfr]
    repeat walk_at "q"
    rotate_left
    · rename_i z
      rw [eqv_nats] at z
      cases z
    refine we_sortedI (WO.of (we_callO hPo (by dsimp only; omega) ?_)) mso bso
    repeat walk_at "q"
    refine ⟨r, _, fs, rfl, .inl rfl, r1, r2, by omega, hfx, bumps (List.replicate r 0) fs, rfl, fun p1 hp1 hs1 => ?_⟩
    refine WO.of (we_sortedI (WO.of ?_) mso bso)
    repeat walk_at "q"
    intro p2 hp2 hs2
    have e12 : p1 = p2 := by
      have := (sorted_counts hR2 hp1 hs1).trans (sorted_counts hR hp2 hs2).symm
      exact List.reverse_inj.mp this
    subst e12
    have shP := shaped_ints p1
    repeat walk_at "q"
    · rename_i z
      rw [eqv_ints] at z
      cases z
    walk_at "S"
    show WS _ _ _ _
    -- more
    refine ws_cut (fun ρ' => ∃ (ms : List Nat) (b11 : Option SV), ms.length ≤ 60 ∧ (∀ x ∈ ms, x < r) ∧ ρ' = [some (.scr ns), some .rel, some (.dat (.int (i : Int))), some (.dat (.int (r : Int))), some (.dat (.list (hs.map natD))), some (.dat (.list ((ranksFrom (List.replicate r 0) hs).map natD))), some (.dat (.list ((runsOf (chgsOf r hs)).map runD))), a7, some (.dat (.list ((chgsOf r hs).map .int))), some (.dat (.list ((bumps (List.replicate r 0) hs).map .int))), some (.own (((0 : Int) :: sizesFrom (List.replicate r 0) hs).map .int)), b11, some (.dat (.list (nms.map natD))), a13, some (.dat (.list ((hs.map (nameOf nms)).map natD))), some (.dat (.list (fs.map natD))), some (.dat (.list ((hs ++ ms).map natD)))]) ?_ fun ρ' ⟨ms, b11, hml, hmx, e⟩ => ?_
    · walk_at "1"
      repeat walk_at "q"
      refine ⟨(r : Int), 60, rfl, by omega, lt8000 (Int.lt_of_le_of_lt (show (r : Int) ≤ 200 by omega) (by decide)), by decide, by decide, fun xs hx' hxs' => ?_⟩
      have e : (xs.map Int.toNat).map natD = xs.map PyData.int := by
        rw [List.map_map]
        refine List.map_congr_left fun x hx' => ?_
        show PyData.int ((x.toNat : Nat) : Int) = .int x
        rw [Int.toNat_of_nonneg (hxs' x hx').1]
      have e2 : (hs ++ xs.map Int.toNat).map natD = hs.map natD ++ xs.map PyData.int := by rw [List.map_append, e]
      repeat walk_at "q"
      refine ⟨Nat.le_trans (show (hs.map natD).length + (xs.map PyData.int).length ≤ 400 by rw [List.length_map, List.length_map, hx']; show hs.length + 60 ≤ 400; omega) (by decide), ?_⟩
      refine ⟨xs.map Int.toNat, b11, by rw [List.length_map, hx']; decide, fun x hx' => ?_, by rw [e2]; rfl⟩
      obtain ⟨y, hy, rfl⟩ := List.mem_map.mp hx'
      have := hxs' y hy
      omega
    subst e
    walk_at "S"
    refine w1_if (wt_cmp (WO.of ?_))
    repeat walk_at "q"
    refine we_callO hRk (by dsimp only; omega) ?_
    repeat walk_at "q"
    refine ⟨r, _, hs ++ ms, rfl, .inl rfl, r1, r2, by rw [List.length_append]; omega, fun x hx => (List.mem_append.mp hx).elim (hxs x) (hmx x), ?_⟩
    repeat walk_at "q"
    have ecut : cutD ((ranksFrom (List.replicate r 0) (hs ++ ms)).map natD) none (some ((((ranksFrom (List.replicate r 0) hs).map natD).length : Nat) : Int)) = (ranksFrom (List.replicate r 0) hs).map natD := by
      rw [ranksFrom_app, List.map_append, cut_headN _ (by rw [List.length_append]; omega), List.take_left]
    rw [ecut]
    refine ⟨shK, shK, fun z => ?_, fun _ => ?_⟩
    · rw [eqv_nats] at z
      cases z
    walk_at "S"
    show WS _ _ _ _
    walk_at "S"
    exact ⟨_, _, _, _, _, _, _, _, _, _, _, _, _, _, _, rfl⟩
  · obtain ⟨a2, a3, a4, a5, a6, a7, a8, a9, a10, a11, a12, a13, a14, a15, a16, rfl⟩ := hJ
    walk_at "S"
    walk_at "1"
    repeat walk_at "q"
    exact q
end


end Tee

namespace Tee
open PySem PySem.Spec PyProof.Rows L2
theorem all_mk {l : PySem.W.OpenLaw} {w : World} {K : PySem.W.Frag} {h : Heap} {mg : Str → Option Value} {fa f0 f1 f2 f3 f4 f5 f6 f7 f8 f9 f10 f11 f12 f13 f14 f15 f16 f17 f18 f19 f20 f21 f22 f23 f24 f25 f26 : Addr} (X : K.In h) (G : h.Ns mainGlobals mg) (hfa : mg "law" = some (.ref fa))
    {od0 an0 od1 an1 od2 an2 od3 an3 od4 an4 od5 an5 od6 an6 od7 an7 od8 an8 od9 an9 od10 an10 od11 an11 od12 an12 od13 an13 od14 an14 od15 an15 od16 an16 od17 an17 od18 an18 od19 an19 od20 an20 od21 an21 od22 an22 od23 an23 od24 an24 od25 an25 od26 an26 : Option Addr} {sl0 sl1 sl2 sl3 sl4 sl5 sl6 sl7 sl8 sl9 sl10 sl11 sl12 sl13 sl14 sl15 sl16 sl17 sl18 sl19 sl20 sl21 sl22 sl23 sl24 sl25 sl26 : Array (Option Value)} {oc0 kV0 dc0 pm0 cd0 ct0 oc1 kV1 dc1 pm1 cd1 ct1 oc2 kV2 dc2 pm2 cd2 ct2 oc3 kV3 dc3 pm3 cd3 ct3 oc4 kV4 dc4 pm4 cd4 ct4 oc5 kV5 dc5 pm5 cd5 ct5 oc6 kV6 dc6 pm6 cd6 ct6 oc7 kV7 dc7 pm7 cd7 ct7 oc8 kV8 dc8 pm8 cd8 ct8 oc9 kV9 dc9 pm9 cd9 ct9 oc10 kV10 dc10 pm10 cd10 ct10 oc11 kV11 dc11 pm11 cd11 ct11 oc12 kV12 dc12 pm12 cd12 ct12 oc13 kV13 dc13 pm13 cd13 ct13 oc14 kV14 dc14 pm14 cd14 ct14 oc15 kV15 dc15 pm15 cd15 ct15 oc16 kV16 dc16 pm16 cd16 ct16 oc17 kV17 dc17 pm17 cd17 ct17 oc18 kV18 dc18 pm18 cd18 ct18 oc19 kV19 dc19 pm19 cd19 ct19 oc20 kV20 dc20 pm20 cd20 ct20 oc21 kV21 dc21 pm21 cd21 ct21 oc22 kV22 dc22 pm22 cd22 ct22 oc23 kV23 dc23 pm23 cd23 ct23 oc24 kV24 dc24 pm24 cd24 ct24 oc25 kV25 dc25 pm25 cd25 ct25 oc26 kV26 dc26 pm26 cd26 ct26 : Value} {tk0 tk1 tk2 tk3 : Tok}
    (a0 : PySem.W.nsIn K mainGlobals "is_integer_between" = some (some (.ref f0))) (l0 : K.lookup f0 = some ⟨oc0, od0, .func (PySem.W.fnOf "is_integer_between" "is_integer_between" (defArgs sIib) (defBody sIib) (defScope sIib) .none kV0 dc0 pm0 an0 cd0 ct0), sl0⟩) (c0 : PySem.W.codeIn K cd0 "is_integer_between" = true) (k0 : PySem.W.keepIn K (.ref f0) = true)
    (a1 : PySem.W.nsIn K mainGlobals "is_list_up_to" = some (some (.ref f1))) (l1 : K.lookup f1 = some ⟨oc1, od1, .func (PySem.W.fnOf "is_list_up_to" "is_list_up_to" (defArgs sIlu) (defBody sIlu) (defScope sIlu) .none kV1 dc1 pm1 an1 cd1 ct1), sl1⟩) (c1 : PySem.W.codeIn K cd1 "is_list_up_to" = true) (k1 : PySem.W.keepIn K (.ref f1) = true)
    (a2 : PySem.W.nsIn K mainGlobals "are_integers_between" = some (some (.ref f2))) (l2 : K.lookup f2 = some ⟨oc2, od2, .func (PySem.W.fnOf "are_integers_between" "are_integers_between" (defArgs sAib) (defBody sAib) (defScope sAib) .none kV2 dc2 pm2 an2 cd2 ct2), sl2⟩) (c2 : PySem.W.codeIn K cd2 "are_integers_between" = true) (k2 : PySem.W.keepIn K (.ref f2) = true)
    (a3 : PySem.W.nsIn K mainGlobals "require_readers" = some (some (.ref f3))) (l3 : K.lookup f3 = some ⟨oc3, od3, .func (PySem.W.fnOf "require_readers" "require_readers" (defArgs sRqr) (defBody sRqr) (defScope sRqr) .none kV3 dc3 pm3 an3 cd3 ct3), sl3⟩) (c3 : PySem.W.codeIn K cd3 "require_readers" = true) (k3 : PySem.W.keepIn K (.ref f3) = true)
    (a4 : PySem.W.nsIn K mainGlobals "is_run" = some (some (.ref f4))) (l4 : K.lookup f4 = some ⟨oc4, od4, .func (PySem.W.fnOf "is_run" "is_run" (defArgs sRun) (defBody sRun) (defScope sRun) .none kV4 dc4 pm4 an4 cd4 ct4), sl4⟩) (c4 : PySem.W.codeIn K cd4 "is_run" = true) (k4 : PySem.W.keepIn K (.ref f4) = true)
    (a5 : PySem.W.nsIn K mainGlobals "is_record" = some (some (.ref f5))) (l5 : K.lookup f5 = some ⟨oc5, od5, .func (PySem.W.fnOf "is_record" "is_record" (defArgs sRec) (defBody sRec) (defScope sRec) .none kV5 dc5 pm5 an5 cd5 ct5), sl5⟩) (c5 : PySem.W.codeIn K cd5 "is_record" = true) (k5 : PySem.W.keepIn K (.ref f5) = true)
    (a6 : PySem.W.nsIn K mainGlobals "require_record" = some (some (.ref f6))) (l6 : K.lookup f6 = some ⟨oc6, od6, .func (PySem.W.fnOf "require_record" "require_record" (defArgs sRequireRecord) (defBody sRequireRecord) (defScope sRequireRecord) .none kV6 dc6 pm6 an6 cd6 ct6), sl6⟩) (c6 : PySem.W.codeIn K cd6 "require_record" = true) (k6 : PySem.W.keepIn K (.ref f6) = true)
    (a7 : PySem.W.nsIn K mainGlobals "merged" = some (some (.ref f7))) (l7 : K.lookup f7 = some ⟨oc7, od7, .func (PySem.W.fnOf "merged" "merged" (defArgs sMerged) (defBody sMerged) (defScope sMerged) .none kV7 dc7 pm7 an7 cd7 ct7), sl7⟩) (c7 : PySem.W.codeIn K cd7 "merged" = true) (k7 : PySem.W.keepIn K (.ref f7) = true)
    (a8 : PySem.W.nsIn K mainGlobals "record_by" = some (some (.ref f8))) (l8 : K.lookup f8 = some ⟨oc8, od8, .func (PySem.W.fnOf "record_by" "record_by" (defArgs sRecordBy) (defBody sRecordBy) (defScope sRecordBy) .none kV8 dc8 pm8 an8 cd8 ct8), sl8⟩) (c8 : PySem.W.codeIn K cd8 "record_by" = true) (k8 : PySem.W.keepIn K (.ref f8) = true)
    (a9 : PySem.W.nsIn K mainGlobals "count_reads" = some (some (.ref f9))) (l9 : K.lookup f9 = some ⟨oc9, od9, .func (PySem.W.fnOf "count_reads" "count_reads" (defArgs sCountReads) (defBody sCountReads) (defScope sCountReads) .none kV9 dc9 pm9 an9 cd9 ct9), sl9⟩) (c9 : PySem.W.codeIn K cd9 "count_reads" = true) (k9 : PySem.W.keepIn K (.ref f9) = true)
    (a10 : PySem.W.nsIn K mainGlobals "changes_by" = some (some (.ref f10))) (l10 : K.lookup f10 = some ⟨oc10, od10, .func (PySem.W.fnOf "changes_by" "changes_by" (defArgs sChangesBy) (defBody sChangesBy) (defScope sChangesBy) .none kV10 dc10 pm10 an10 cd10 ct10), sl10⟩) (c10 : PySem.W.codeIn K cd10 "changes_by" = true) (k10 : PySem.W.keepIn K (.ref f10) = true)
    (a11 : PySem.W.nsIn K mainGlobals "is_history" = some (some (.ref f11))) (l11 : K.lookup f11 = some ⟨oc11, od11, .func (PySem.W.fnOf "is_history" "is_history" (defArgs sIsh) (defBody sIsh) (defScope sIsh) .none kV11 dc11 pm11 an11 cd11 ct11), sl11⟩) (c11 : PySem.W.codeIn K cd11 "is_history" = true) (k11 : PySem.W.keepIn K (.ref f11) = true)
    (a12 : PySem.W.nsIn K mainGlobals "require_history" = some (some (.ref f12))) (l12 : K.lookup f12 = some ⟨oc12, od12, .func (PySem.W.fnOf "require_history" "require_history" (defArgs sRequireHistory) (defBody sRequireHistory) (defScope sRequireHistory) .none kV12 dc12 pm12 an12 cd12 ct12), sl12⟩) (c12 : PySem.W.codeIn K cd12 "require_history" = true) (k12 : PySem.W.keepIn K (.ref f12) = true)
    (a13 : PySem.W.nsIn K mainGlobals "positions_after" = some (some (.ref f13))) (l13 : K.lookup f13 = some ⟨oc13, od13, .func (PySem.W.fnOf "positions_after" "positions_after" (defArgs sPositionsAfter) (defBody sPositionsAfter) (defScope sPositionsAfter) .none kV13 dc13 pm13 an13 cd13 ct13), sl13⟩) (c13 : PySem.W.codeIn K cd13 "positions_after" = true) (k13 : PySem.W.keepIn K (.ref f13) = true)
    (a14 : PySem.W.nsIn K mainGlobals "ranks_of" = some (some (.ref f14))) (l14 : K.lookup f14 = some ⟨oc14, od14, .func (PySem.W.fnOf "ranks_of" "ranks_of" (defArgs sRanksOf) (defBody sRanksOf) (defScope sRanksOf) .none kV14 dc14 pm14 an14 cd14 ct14), sl14⟩) (c14 : PySem.W.codeIn K cd14 "ranks_of" = true) (k14 : PySem.W.keepIn K (.ref f14) = true)
    (a15 : PySem.W.nsIn K mainGlobals "change_of_rank" = some (some (.ref f15))) (l15 : K.lookup f15 = some ⟨oc15, od15, .func (PySem.W.fnOf "change_of_rank" "change_of_rank" (defArgs sChangeOfRank) (defBody sChangeOfRank) (defScope sChangeOfRank) .none kV15 dc15 pm15 an15 cd15 ct15), sl15⟩) (c15 : PySem.W.codeIn K cd15 "change_of_rank" = true) (k15 : PySem.W.keepIn K (.ref f15) = true)
    (a16 : PySem.W.nsIn K mainGlobals "changes_of" = some (some (.ref f16))) (l16 : K.lookup f16 = some ⟨oc16, od16, .func (PySem.W.fnOf "changes_of" "changes_of" (defArgs sChangesOf) (defBody sChangesOf) (defScope sChangesOf) .none kV16 dc16 pm16 an16 cd16 ct16), sl16⟩) (c16 : PySem.W.codeIn K cd16 "changes_of" = true) (k16 : PySem.W.keepIn K (.ref f16) = true)
    (a17 : PySem.W.nsIn K mainGlobals "record_of" = some (some (.ref f17))) (l17 : K.lookup f17 = some ⟨oc17, od17, .func (PySem.W.fnOf "record_of" "record_of" (defArgs sRecordOf) (defBody sRecordOf) (defScope sRecordOf) .none kV17 dc17 pm17 an17 cd17 ct17), sl17⟩) (c17 : PySem.W.codeIn K cd17 "record_of" = true) (k17 : PySem.W.keepIn K (.ref f17) = true)
    (a18 : PySem.W.nsIn K mainGlobals "greatest_size" = some (some (.ref f18))) (l18 : K.lookup f18 = some ⟨oc18, od18, .func (PySem.W.fnOf "greatest_size" "greatest_size" (defArgs sGreatestSize) (defBody sGreatestSize) (defScope sGreatestSize) .none kV18 dc18 pm18 an18 cd18 ct18), sl18⟩) (c18 : PySem.W.codeIn K cd18 "greatest_size" = true) (k18 : PySem.W.keepIn K (.ref f18) = true)
    (a19 : PySem.W.nsIn K mainGlobals "keeps_order" = some (some (.ref f19))) (l19 : K.lookup f19 = some ⟨oc19, od19, .func (PySem.W.fnOf "keeps_order" "keeps_order" (defArgs sKeepsOrder) (defBody sKeepsOrder) (defScope sKeepsOrder) .none kV19 dc19 pm19 an19 cd19 ct19), sl19⟩) (c19 : PySem.W.codeIn K cd19 "keeps_order" = true) (k19 : PySem.W.keepIn K (.ref f19) = true)
    (a20 : PySem.W.nsIn K mainGlobals "is_ranks" = some (some (.ref f20))) (l20 : K.lookup f20 = some ⟨oc20, od20, .func (PySem.W.fnOf "is_ranks" "is_ranks" (defArgs sIsRanks) (defBody sIsRanks) (defScope sIsRanks) .none kV20 dc20 pm20 an20 cd20 ct20), sl20⟩) (c20 : PySem.W.codeIn K cd20 "is_ranks" = true) (k20 : PySem.W.keepIn K (.ref f20) = true)
    (a21 : PySem.W.nsIn K mainGlobals "history_by" = some (some (.ref f21))) (l21 : K.lookup f21 = some ⟨oc21, od21, .func (PySem.W.fnOf "history_by" "history_by" (defArgs sHistoryBy) (defBody sHistoryBy) (defScope sHistoryBy) .none kV21 dc21 pm21 an21 cd21 ct21), sl21⟩) (c21 : PySem.W.codeIn K cd21 "history_by" = true) (k21 : PySem.W.keepIn K (.ref f21) = true)
    (a22 : PySem.W.nsIn K mainGlobals "_law_reel" = some (some (.ref f22))) (l22 : K.lookup f22 = some ⟨oc22, od22, .func (PySem.W.fnOf "_law_reel" "_law_reel" (defArgs sRel) (defBody sRel) (defScope sRel) .none kV22 dc22 pm22 an22 cd22 ct22), sl22⟩) (c22 : PySem.W.codeIn K cd22 "_law_reel" = true) (k22 : PySem.W.keepIn K (.ref f22) = true)
    (a23 : PySem.W.nsIn K mainGlobals "_law_draw" = some (some (.ref f23))) (l23 : K.lookup f23 = some ⟨oc23, od23, .func (PySem.W.fnOf "_law_draw" "_law_draw" (defArgs sDrw) (defBody sDrw) (defScope sDrw) .none kV23 dc23 pm23 an23 cd23 ct23), sl23⟩) (c23 : PySem.W.codeIn K cd23 "_law_draw" = true) (k23 : PySem.W.keepIn K (.ref f23) = true)
    (a24 : PySem.W.nsIn K mainGlobals "_law_history" = some (some (.ref f24))) (l24 : K.lookup f24 = some ⟨oc24, od24, .func (PySem.W.fnOf "_law_history" "_law_history" (defArgs sHis) (defBody sHis) (defScope sHis) .none kV24 dc24 pm24 an24 cd24 ct24), sl24⟩) (c24 : PySem.W.codeIn K cd24 "_law_history" = true) (k24 : PySem.W.keepIn K (.ref f24) = true)
    (a25 : PySem.W.nsIn K mainGlobals "_law_shuffled" = some (some (.ref f25))) (l25 : K.lookup f25 = some ⟨oc25, od25, .func (PySem.W.fnOf "_law_shuffled" "_law_shuffled" (defArgs sLawShuffled) (defBody sLawShuffled) (defScope sLawShuffled) .none kV25 dc25 pm25 an25 cd25 ct25), sl25⟩) (c25 : PySem.W.codeIn K cd25 "_law_shuffled" = true) (k25 : PySem.W.keepIn K (.ref f25) = true)
    (a26 : PySem.W.nsIn K mainGlobals "law" = some (some (.ref f26))) (l26 : K.lookup f26 = some ⟨oc26, od26, .func (PySem.W.fnOf "law" "law" (defArgs sLaw) (defBody sLaw) (defScope sLaw) .none kV26 dc26 pm26 an26 cd26 ct26), sl26⟩) (c26 : PySem.W.codeIn K cd26 "law" = true) (k26 : PySem.W.keepIn K (.ref f26) = true)
    (kst0 : PySem.W.nsIn K mainGlobals "MOST_READERS" = some (some (.int 200 tk0)))
    (kst1 : PySem.W.nsIn K mainGlobals "MOST_ITEMS" = some (some (.int 400 tk1)))
    (kst2 : PySem.W.nsIn K mainGlobals "MOST_COUNT" = some (some (.int 1000000000000000000000000000000 tk2)))
    (kst3 : PySem.W.nsIn K mainGlobals "MOST_CHANGES" = some (some (.int 2000 tk3)))
    (z0 : PySem.W.nsIn K mainGlobals "isinstance" = some none)
    (z1 : PySem.W.nsIn K mainGlobals "int" = some none)
    (z2 : PySem.W.nsIn K mainGlobals "bool" = some none)
    (z3 : PySem.W.nsIn K mainGlobals "list" = some none)
    (z4 : PySem.W.nsIn K mainGlobals "tuple" = some none)
    (z5 : PySem.W.nsIn K mainGlobals "len" = some none)
    (z6 : PySem.W.nsIn K mainGlobals "all" = some none)
    (z7 : PySem.W.nsIn K mainGlobals "range" = some none)
    (z8 : PySem.W.nsIn K mainGlobals "repr" = some none)
    (z9 : PySem.W.nsIn K mainGlobals "min" = some none)
    (z10 : PySem.W.nsIn K mainGlobals "max" = some none)
    (z11 : PySem.W.nsIn K mainGlobals "sum" = some none)
    (z12 : PySem.W.nsIn K mainGlobals "zip" = some none)
    (z13 : PySem.W.nsIn K mainGlobals "sorted" = some none)
    : ∃ fd : FuncData, (∀ (s : Shared) (u : Value), BindsTo s fd ⟨[u], []⟩ [("script", u)]) ∧ ∀ base : Heap, K.In base → base.Ns mainGlobals mg → SysAt base → Gok l.prog w K mg base CX0 8 fa fd ["script"] (spV K wLaw) := by
  have e := hfa.symm.trans (PySem.W.mg_of X G a26)
  cases e
  have F0 := fun_mk (st := sIib) l0 c0 k0
  have F1 := fun_mk (st := sIlu) l1 c1 k1
  have F2 := fun_mk (st := sAib) l2 c2 k2
  have F3 := fun_mk (st := sRqr) l3 c3 k3
  have F4 := fun_mk (st := sRun) l4 c4 k4
  have F5 := fun_mk (st := sRec) l5 c5 k5
  have F6 := fun_mk (st := sRequireRecord) l6 c6 k6
  have F7 := fun_mk (st := sMerged) l7 c7 k7
  have F8 := fun_mk (st := sRecordBy) l8 c8 k8
  have F9 := fun_mk (st := sCountReads) l9 c9 k9
  have F10 := fun_mk (st := sChangesBy) l10 c10 k10
  have F11 := fun_mk (st := sIsh) l11 c11 k11
  have F12 := fun_mk (st := sRequireHistory) l12 c12 k12
  have F13 := fun_mk (st := sPositionsAfter) l13 c13 k13
  have F14 := fun_mk (st := sRanksOf) l14 c14 k14
  have F15 := fun_mk (st := sChangeOfRank) l15 c15 k15
  have F16 := fun_mk (st := sChangesOf) l16 c16 k16
  have F17 := fun_mk (st := sRecordOf) l17 c17 k17
  have F18 := fun_mk (st := sGreatestSize) l18 c18 k18
  have F19 := fun_mk (st := sKeepsOrder) l19 c19 k19
  have F20 := fun_mk (st := sIsRanks) l20 c20 k20
  have F21 := fun_mk (st := sHistoryBy) l21 c21 k21
  have F22 := fun_mk (st := sRel) l22 c22 k22
  have F23 := fun_mk (st := sDrw) l23 c23 k23
  have F24 := fun_mk (st := sHis) l24 c24 k24
  have F25 := fun_mk (st := sLawShuffled) l25 c25 k25
  have F26 := fun_mk (st := sLaw) l26 c26 k26
  have b0 := F0.binds (ps := ["value", "least", "greatest"]) fun _ _ _ _ _ _ us hl => match us, hl with | [_, _, _], _ => rfl
  have m0 := PySem.W.mg_of X G a0
  have b1 := F1.binds (ps := ["value", "most"]) fun _ _ _ _ _ _ us hl => match us, hl with | [_, _], _ => rfl
  have m1 := PySem.W.mg_of X G a1
  have b2 := F2.binds (ps := ["value", "most", "least", "greatest"]) fun _ _ _ _ _ _ us hl => match us, hl with | [_, _, _, _], _ => rfl
  have m2 := PySem.W.mg_of X G a2
  have b3 := F3.binds (ps := ["readers", "most"]) fun _ _ _ _ _ _ us hl => match us, hl with | [_, _], _ => rfl
  have m3 := PySem.W.mg_of X G a3
  have b4 := F4.binds (ps := ["value"]) fun _ _ _ _ _ _ us hl => match us, hl with | [_], _ => rfl
  have m4 := PySem.W.mg_of X G a4
  have b5 := F5.binds (ps := ["value"]) fun _ _ _ _ _ _ us hl => match us, hl with | [_], _ => rfl
  have m5 := PySem.W.mg_of X G a5
  have b6 := F6.binds (ps := ["record"]) fun _ _ _ _ _ _ us hl => match us, hl with | [_], _ => rfl
  have m6 := PySem.W.mg_of X G a6
  have b7 := F7.binds (ps := ["runs"]) fun _ _ _ _ _ _ us hl => match us, hl with | [_], _ => rfl
  have m7 := PySem.W.mg_of X G a7
  have b8 := F8.binds (ps := ["changes"]) fun _ _ _ _ _ _ us hl => match us, hl with | [_], _ => rfl
  have m8 := PySem.W.mg_of X G a8
  have b9 := F9.binds (ps := ["record"]) fun _ _ _ _ _ _ us hl => match us, hl with | [_], _ => rfl
  have m9 := PySem.W.mg_of X G a9
  have b10 := F10.binds (ps := ["record"]) fun _ _ _ _ _ _ us hl => match us, hl with | [_], _ => rfl
  have m10 := PySem.W.mg_of X G a10
  have b11 := F11.binds (ps := ["readers", "value"]) fun _ _ _ _ _ _ us hl => match us, hl with | [_, _], _ => rfl
  have m11 := PySem.W.mg_of X G a11
  have b12 := F12.binds (ps := ["readers", "history"]) fun _ _ _ _ _ _ us hl => match us, hl with | [_, _], _ => rfl
  have m12 := PySem.W.mg_of X G a12
  have b13 := F13.binds (ps := ["readers", "history"]) fun _ _ _ _ _ _ us hl => match us, hl with | [_, _], _ => rfl
  have m13 := PySem.W.mg_of X G a13
  have b14 := F14.binds (ps := ["readers", "history"]) fun _ _ _ _ _ _ us hl => match us, hl with | [_, _], _ => rfl
  have m14 := PySem.W.mg_of X G a14
  have b15 := F15.binds (ps := ["readers", "rank"]) fun _ _ _ _ _ _ us hl => match us, hl with | [_, _], _ => rfl
  have m15 := PySem.W.mg_of X G a15
  have b16 := F16.binds (ps := ["readers", "history"]) fun _ _ _ _ _ _ us hl => match us, hl with | [_, _], _ => rfl
  have m16 := PySem.W.mg_of X G a16
  have b17 := F17.binds (ps := ["readers", "history"]) fun _ _ _ _ _ _ us hl => match us, hl with | [_, _], _ => rfl
  have m17 := PySem.W.mg_of X G a17
  have b18 := F18.binds (ps := ["readers", "history"]) fun _ _ _ _ _ _ us hl => match us, hl with | [_, _], _ => rfl
  have m18 := PySem.W.mg_of X G a18
  have b19 := F19.binds (ps := ["readers", "ranks"]) fun _ _ _ _ _ _ us hl => match us, hl with | [_, _], _ => rfl
  have m19 := PySem.W.mg_of X G a19
  have b20 := F20.binds (ps := ["readers", "value"]) fun _ _ _ _ _ _ us hl => match us, hl with | [_, _], _ => rfl
  have m20 := PySem.W.mg_of X G a20
  have b21 := F21.binds (ps := ["readers", "ranks"]) fun _ _ _ _ _ _ us hl => match us, hl with | [_, _], _ => rfl
  have m21 := PySem.W.mg_of X G a21
  have b22 := F22.binds (ps := ["script"]) fun _ _ _ _ _ _ us hl => match us, hl with | [_], _ => rfl
  have m22 := PySem.W.mg_of X G a22
  have b23 := F23.binds (ps := ["reel", "many"]) fun _ _ _ _ _ _ us hl => match us, hl with | [_, _], _ => rfl
  have m23 := PySem.W.mg_of X G a23
  have b24 := F24.binds (ps := ["reel", "readers", "many"]) fun _ _ _ _ _ _ us hl => match us, hl with | [_, _, _], _ => rfl
  have m24 := PySem.W.mg_of X G a24
  have b25 := F25.binds (ps := ["reel", "values"]) fun _ _ _ _ _ _ us hl => match us, hl with | [_, _], _ => rfl
  have m25 := PySem.W.mg_of X G a25
  have cg0 := PySem.W.mg_of X G kst0
  have cg1 := PySem.W.mg_of X G kst1
  have cg2 := PySem.W.mg_of X G kst2
  have cg3 := PySem.W.mg_of X G kst3
  have zb0 := PySem.W.mg_none_of X G z0
  have zb1 := PySem.W.mg_none_of X G z1
  have zb2 := PySem.W.mg_none_of X G z2
  have zb3 := PySem.W.mg_none_of X G z3
  have zb4 := PySem.W.mg_none_of X G z4
  have zb5 := PySem.W.mg_none_of X G z5
  have zb6 := PySem.W.mg_none_of X G z6
  have zb7 := PySem.W.mg_none_of X G z7
  have zb8 := PySem.W.mg_none_of X G z8
  have zb9 := PySem.W.mg_none_of X G z9
  have zb10 := PySem.W.mg_none_of X G z10
  have zb11 := PySem.W.mg_none_of X G z11
  have zb12 := PySem.W.mg_none_of X G z12
  have zb13 := PySem.W.mg_none_of X G z13
  have B : Bl mg := ⟨zb0, zb1, zb2, zb3, zb4, zb5, zb6, zb7, zb8, zb9, zb10, zb11⟩
  refine ⟨PySem.W.fnOf "law" "law" (defArgs sLaw) (defBody sLaw) (defScope sLaw) .none kV26 dc26 pm26 an26 cd26 ct26, fun s v => .of_eq rfl, fun base _ _ sys => ?_⟩
  have hIib : Has l.prog w K mg base "is_integer_between" 1 wIib := has_fun wIib F0 m0 b0 scIib sys (by rintro as Q ⟨d, lo, hi, rfl, _⟩; rfl) (fun as Q h => ws_iib B as Q h)
  have hIlu : Has l.prog w K mg base "is_list_up_to" 1 wIlu := has_fun wIlu F1 m1 b1 scIlu sys (by rintro as Q ⟨d, m, rfl, _⟩; rfl) (fun as Q h => ws_ilu B as Q h)
  have hAib : Has l.prog w K mg base "are_integers_between" 2 wAib := has_fun wAib F2 m2 b2 scAib sys (by rintro as Q ⟨d, m, lo, hi, rfl, _⟩; rfl) (fun as Q h => ws_aib B (Nat.le_refl _) hIlu hIib as Q h)
  have hRqr : Has l.prog w K mg base "require_readers" 2 wRqr := has_fun wRqr F3 m3 b3 scRqr sys (by rintro as Q ⟨r, m, rfl, _⟩; rfl) (fun as Q h => ws_rqr (Nat.le_refl _) hIib as Q h)
  have hRun : Has l.prog w K mg base "is_run" 2 wRun := has_fun wRun F4 m4 b4 scRun sys (by rintro as Q ⟨d, rfl, _⟩; rfl) (fun as Q h => ws_run B (Nat.le_refl _) hIlu hIib cg2 as Q h)
  have hRec : Has l.prog w K mg base "is_record" 3 wRec := has_fun wRec F5 m5 b5 scRec sys (by rintro as Q ⟨d, rfl, _⟩; rfl) (fun as Q h => ws_rec B zb12 (Nat.le_refl _) hIlu hRun cg1 as Q h)
  have hRqd : Has l.prog w K mg base "require_record" 4 wRqd := has_fun wRqd F6 m6 b6 scRequireRecord sys (by rintro as Q ⟨d, rfl, _⟩; rfl) (fun as Q h => ws_rqd (Nat.le_refl _) hRec as Q h)
  have hMrg : HasO l.prog w K mg base "merged" 1 wMrg := hasO_fun wMrg F7 m7 b7 scMerged sys (by rintro as Q ⟨ds, rs, rfl, _⟩; rfl) (fun as Q h => ws_mrg as Q h)
  have hRby : HasO l.prog w K mg base "record_by" 3 wRby := hasO_fun wRby F8 m8 b8 scRecordBy sys (by rintro as Q ⟨d, cs, rfl, _⟩; rfl) (fun as Q h => ws_rby (Nat.le_refl _) hAib hMrg cg1 as Q h)
  have hCrd : Has l.prog w K mg base "count_reads" 5 wCrd := has_fun wCrd F9 m9 b9 scCountReads sys (by rintro as Q ⟨d, rl, rfl, _⟩; rfl) (fun as Q h => ws_crd (Nat.le_refl _) B.sum hRqd as Q h)
  have hCby : HasO l.prog w K mg base "changes_by" 6 wCby := hasO_fun wCby F10 m10 b10 scChangesBy sys (by rintro as Q ⟨d, rl, rfl, _⟩; rfl) (fun as Q h => ws_cby (Nat.le_refl _) hCrd cg3 as Q h)
  have hIsh : Has l.prog w K mg base "is_history" 3 wIsh := has_fun wIsh F11 m11 b11 scIsh sys (by rintro as Q ⟨r, d, rfl, _⟩; rfl) (fun as Q h => ws_ish (Nat.le_refl _) hRqr hAib cg0 cg1 as Q h)
  have hRqh : Has l.prog w K mg base "require_history" 4 wRqh := has_fun wRqh F12 m12 b12 scRequireHistory sys (by rintro as Q ⟨r, d, rfl, _⟩; rfl) (fun as Q h => ws_rqh (Nat.le_refl _) hIsh as Q h)
  have hPos : HasO l.prog w K mg base "positions_after" 5 wPos := hasO_fun wPos F13 m13 b13 scPositionsAfter sys (by rintro as Q ⟨r, d, hs, rfl, _⟩; rfl) (fun as Q h => ws_pos (Nat.le_refl _) hRqh as Q h)
  have hRks : HasO l.prog w K mg base "ranks_of" 5 wRks := hasO_fun wRks F14 m14 b14 scRanksOf sys (by rintro as Q ⟨r, d, hs, rfl, _⟩; rfl) (fun as Q h => ws_rks (Nat.le_refl _) B hRqh as Q h)
  have hCor : Has l.prog w K mg base "change_of_rank" 1 wCor := has_fun wCor F15 m15 b15 scChangeOfRank sys (by rintro as Q ⟨r, k, rfl, _⟩; rfl) (fun as Q h => ws_cor as Q h)
  have hCof : Has l.prog w K mg base "changes_of" 6 wCof := has_fun wCof F16 m16 b16 scChangesOf sys (by rintro as Q ⟨r, d, hs, rfl, _⟩; rfl) (fun as Q h => ws_cof (Nat.le_refl _) hCor hRks as Q h)
  have hRof : HasO l.prog w K mg base "record_of" 7 wRof := hasO_fun wRof F17 m17 b17 scRecordOf sys (by rintro as Q ⟨r, d, hs, rfl, _⟩; rfl) (fun as Q h => ws_rof (Nat.le_refl _) hCof hRby as Q h)
  have hGsz : Has l.prog w K mg base "greatest_size" 7 wGsz := has_fun wGsz F18 m18 b18 scGreatestSize sys (by rintro as Q ⟨r, d, hs, rfl, _⟩; rfl) (fun as Q h => ws_gsz (Nat.le_refl _) B.max hCof as Q h)
  have hKo : Has l.prog w K mg base "keeps_order" 1 wKo := has_fun wKo F19 m19 b19 scKeepsOrder sys (by rintro as Q ⟨r, d, ks, rfl, _⟩; rfl) (fun as Q h => ws_ko as Q h)
  have hIsr : Has l.prog w K mg base "is_ranks" 3 wIsr := has_fun wIsr F20 m20 b20 scIsRanks sys (by rintro as Q ⟨r, d, rfl, _⟩; rfl) (fun as Q h => ws_isr (Nat.le_refl _) hRqr hAib hKo cg0 cg1 as Q h)
  have hHby : HasO l.prog w K mg base "history_by" 4 wHby := hasO_fun wHby F21 m21 b21 scHistoryBy sys (by rintro as Q ⟨r, d, ks, rfl, _⟩; rfl) (fun as Q h => ws_hby (Nat.le_refl _) hIsr as Q h)
  have hRel : Has l.prog w K mg base "_law_reel" 1 wReel := has_fun wReel F22 m22 b22 scRel sys (by rintro as Q ⟨ns, rfl, _⟩; rfl) (fun as Q h => ws_reel as Q h)
  have hDrw : Has l.prog w K mg base "_law_draw" 1 wDraw := ⟨_, _, _, m23, F23.kp, b23, Gok.of (ok_draw (k := 0) F23 B.len B.int)⟩
  have hHis : Has l.prog w K mg base "_law_history" 2 wHis := has_fun wHis F24 m24 b24 scHis sys (by rintro as Q ⟨r, m, rfl, _⟩; rfl) (fun as Q h => ws_his (Nat.le_refl _) B.range hDrw as Q h)
  have hShf : HasO l.prog w K mg base "_law_shuffled" 2 wShf := hasO_fun wShf F25 m25 b25 scLawShuffled sys (by rintro as Q ⟨r, rfl, _⟩; rfl) (fun as Q h => ws_shf (Nat.le_refl _) B hDrw as Q h)
  have bso : bootBuiltins "sorted" = some (.builtin "sorted") := rfl
  exact gok_fun wLaw F26 scLaw sys (by rintro as Q ⟨ns, rfl, _⟩; rfl) (fun as Q h => ws_law (Nat.le_refl _) B zb13 bso hRel hDrw hHis hShf hRks hRof hRby hCby hIsr hPos hGsz hIsh hHby as Q h)
end Tee
open PySem PySem.W PyProof.Rows
set_option maxHeartbeats 0 in
theorem PySem.Challenge.cw_teesizes_k07_whole_ranks_and_histories_holds : PySem.Challenge.rw_teesizes_k07_whole_ranks_and_histories.Holds := by
  w_on; o_law; k_head; (case hw => w_witness2)
  k_fill
  refine Tee.walkG (l := PySem.Challenge.rw_teesizes_k07_whole_ranks_and_histories) (n := 63) (k := 8) (x := "script") (CX := fun _ => L2.CX0) (sp := fun w => Tee.spV _ Tee.wLaw) rfl (by decide) rfl (by decide +kernel) ⟨rfl, by decide, by decide⟩ (fun w h Y => PySem.W.kIn_of Y) ?F (fun _ _ a ns hl hO hS => Tee.law_sp hl hO hS) (fun _ _ _ _ _ h => h)
  case F =>
    intro w mg fa h KX G hmg
    refine' Tee.all_mk KX G hmg ?a0 ?l0 ?c0 ?k0 ?a1 ?l1 ?c1 ?k1 ?a2 ?l2 ?c2 ?k2 ?a3 ?l3 ?c3 ?k3 ?a4 ?l4 ?c4 ?k4 ?a5 ?l5 ?c5 ?k5 ?a6 ?l6 ?c6 ?k6 ?a7 ?l7 ?c7 ?k7 ?a8 ?l8 ?c8 ?k8 ?a9 ?l9 ?c9 ?k9 ?a10 ?l10 ?c10 ?k10 ?a11 ?l11 ?c11 ?k11 ?a12 ?l12 ?c12 ?k12 ?a13 ?l13 ?c13 ?k13 ?a14 ?l14 ?c14 ?k14 ?a15 ?l15 ?c15 ?k15 ?a16 ?l16 ?c16 ?k16 ?a17 ?l17 ?c17 ?k17 ?a18 ?l18 ?c18 ?k18 ?a19 ?l19 ?c19 ?k19 ?a20 ?l20 ?c20 ?k20 ?a21 ?l21 ?c21 ?k21 ?a22 ?l22 ?c22 ?k22 ?a23 ?l23 ?c23 ?k23 ?a24 ?l24 ?c24 ?k24 ?a25 ?l25 ?c25 ?k25 ?a26 ?l26 ?c26 ?k26 ?kst0 ?kst1 ?kst2 ?kst3 ?z0 ?z1 ?z2 ?z3 ?z4 ?z5 ?z6 ?z7 ?z8 ?z9 ?z10 ?z11 ?z12 ?z13
    (case a0 => k_is); (case l0 => k_is); (case c0 => k_is); (case k0 => k_is); (case a1 => k_is); (case l1 => k_is); (case c1 => k_is); (case k1 => k_is); (case a2 => k_is); (case l2 => k_is); (case c2 => k_is); (case k2 => k_is); (case a3 => k_is); (case l3 => k_is); (case c3 => k_is); (case k3 => k_is); (case a4 => k_is); (case l4 => k_is); (case c4 => k_is); (case k4 => k_is); (case a5 => k_is); (case l5 => k_is); (case c5 => k_is); (case k5 => k_is); (case a6 => k_is); (case l6 => k_is); (case c6 => k_is); (case k6 => k_is); (case a7 => k_is); (case l7 => k_is); (case c7 => k_is); (case k7 => k_is); (case a8 => k_is); (case l8 => k_is); (case c8 => k_is); (case k8 => k_is); (case a9 => k_is); (case l9 => k_is); (case c9 => k_is); (case k9 => k_is); (case a10 => k_is); (case l10 => k_is); (case c10 => k_is); (case k10 => k_is); (case a11 => k_is); (case l11 => k_is); (case c11 => k_is); (case k11 => k_is); (case a12 => k_is); (case l12 => k_is); (case c12 => k_is); (case k12 => k_is); (case a13 => k_is); (case l13 => k_is); (case c13 => k_is); (case k13 => k_is); (case a14 => k_is); (case l14 => k_is); (case c14 => k_is); (case k14 => k_is); (case a15 => k_is); (case l15 => k_is); (case c15 => k_is); (case k15 => k_is); (case a16 => k_is); (case l16 => k_is); (case c16 => k_is); (case k16 => k_is); (case a17 => k_is); (case l17 => k_is); (case c17 => k_is); (case k17 => k_is); (case a18 => k_is); (case l18 => k_is); (case c18 => k_is); (case k18 => k_is); (case a19 => k_is); (case l19 => k_is); (case c19 => k_is); (case k19 => k_is); (case a20 => k_is); (case l20 => k_is); (case c20 => k_is); (case k20 => k_is); (case a21 => k_is); (case l21 => k_is); (case c21 => k_is); (case k21 => k_is); (case a22 => k_is); (case l22 => k_is); (case c22 => k_is); (case k22 => k_is); (case a23 => k_is); (case l23 => k_is); (case c23 => k_is); (case k23 => k_is); (case a24 => k_is); (case l24 => k_is); (case c24 => k_is); (case k24 => k_is); (case a25 => k_is); (case l25 => k_is); (case c25 => k_is); (case k25 => k_is); (case a26 => k_is); (case l26 => k_is); (case c26 => k_is); (case k26 => k_is); (case kst0 => k_is); (case kst1 => k_is); (case kst2 => k_is); (case kst3 => k_is); (case z0 => k_is); (case z1 => k_is); (case z2 => k_is); (case z3 => k_is); (case z4 => k_is); (case z5 => k_is); (case z6 => k_is); (case z7 => k_is); (case z8 => k_is); (case z9 => k_is); (case z10 => k_is); (case z11 => k_is); (case z12 => k_is); (case z13 => k_is)

